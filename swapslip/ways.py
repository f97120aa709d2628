"""Least prices and told ways between houses, over ties as triples (one, other, price)."""

from swapslip.errors import Lone, NoHouse, NoTie, NoWay

MOST_HOUSES = 8
MOST_TIES = 14
MOST_PRICE = 9


def check_house(many, house):
    if house < 0 or house >= many:
        raise NoHouse(house)


def neighbours(ties, house):
    """Pairs (house, price) for all ties of a house, which may be handed in either way about."""
    pairs = []
    for one, other, price in ties:
        if one == house:
            pairs.append((other, price))
        if other == house:
            pairs.append((one, price))
    return pairs


def cheapen(prices, house, near, price):
    """Give a house the price of its way over `near`, where that is a cheaper one."""
    if prices[near] is None:
        return
    total = prices[near] + price
    if prices[house] is None or total < prices[house]:
        prices[house] = total


def far(many, ties, goal):
    """For each house the least price of its ways to the goal, None where there is none."""
    check_house(many, goal)
    prices = [None] * many
    prices[goal] = 0
    # A least way comes to no house twice, so as many rounds as there are houses are enough.
    for turn in range(many):
        for one, other, price in ties:
            cheapen(prices, one, other, price)
            cheapen(prices, other, one, price)
    return prices


def next_house(prices, ties, goal, house):
    """The least-numbered neighbour over which the house's least price comes about."""
    if house == goal or prices[house] is None:
        return None
    # What is joined with a house that has a way has one too, so no price here is None.
    return min([near for near, price in neighbours(ties, house) if prices[near] + price == prices[house]])


def nexts(many, ties, goal):
    """For each house the next one on the told way, None for the goal and where there is no way."""
    prices = far(many, ties, goal)
    return [next_house(prices, ties, goal, house) for house in range(many)]


def reached(many, ties, start):
    """All houses that can be come to from the start, rising."""
    # Ties lead both ways, so these are the houses that have a way to it.
    prices = far(many, ties, start)
    return [house for house in range(many) if prices[house] is not None]


def least_way(many, ties, start, goal):
    """The pair (price, way) of the told way from the start to the goal."""
    check_house(many, start)
    check_house(many, goal)
    price = far(many, ties, goal)[start]
    if price is None:
        raise NoWay(reached(many, ties, start))
    onward = nexts(many, ties, goal)
    way = [start]
    while way[-1] != goal:
        way.append(onward[way[-1]])
    return price, tuple(way)


def tie_holds(told, one, other, price):
    """Whether the numbers of two joined houses can both be least prices."""
    if told[one] is None or told[other] is None:
        return told[one] is None and told[other] is None
    return abs(told[one] - told[other]) <= price


def house_holds(ties, goal, told, house):
    """Whether a house has a neighbour over which its number comes about, if it needs one."""
    if house == goal or told[house] is None:
        return True
    near = [told[other] + price for other, price in neighbours(ties, house)]
    return told[house] in near


def far_holds(many, ties, goal, told):
    """Whether `told` is just what `far` tells, without reckoning it anew.

    The ties let no number be above a least price. Each number but the goal's comes about over
    a lesser one, and so at last from the goal's nought: it is the price of some way, not below.
    """
    check_house(many, goal)
    if len(told) != many or told[goal] != 0:
        return False
    if not all([tie_holds(told, one, other, price) for one, other, price in ties]):
        return False
    # Behind the ties, so that the neighbours of a number are numbers.
    return all([house_holds(ties, goal, told, house) for house in range(many)])


def without(ties, one, other):
    """The ties but the one that joins these two houses."""
    return [tie for tie in ties if (tie[0], tie[1]) != (one, other) and (tie[1], tie[0]) != (one, other)]


def round_way(many, ties, one, other):
    """The pair (price, way) of the told way between two houses over all other ties than theirs."""
    check_house(many, one)
    check_house(many, other)
    if one == other:
        raise NoTie(one, other)
    try:
        return least_way(many, without(ties, one, other), one, other)
    except NoWay as gone:
        raise Lone(gone.lot) from None
