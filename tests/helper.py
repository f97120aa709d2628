"""Webs to test with, and slow readings of the document to compare with.

Nothing here imports the program, so that no fault of it can hide here.
"""

import itertools
import random

# Houses that no web has: below nought and far beyond.
STRANGE_HOUSES = [-1, -2, -10 ** 39, 10 ** 39]


def strange_houses(many):
    return [many, many + 1] + STRANGE_HOUSES


def turned(rng, ties):
    """The same ties in another order, some the other way about."""
    mixed = [(b, a, price) if rng.random() < 0.5 else (a, b, price) for a, b, price in ties]
    rng.shuffle(mixed)
    return mixed


def all_pairs(many):
    return list(itertools.combinations(range(many), 2))


def small_webs():
    """Every web of at most three houses with prices 1 to 3, each tie both ways about."""
    webs = []
    for many in range(1, 4):
        for prices in itertools.product([None, 1, 2, 3], repeat=len(all_pairs(many))):
            ties = [(a, b, price) for (a, b), price in zip(all_pairs(many), prices) if price]
            webs.append((many, ties))
            webs.append((many, [(b, a, price) for a, b, price in reversed(ties)]))
    return webs


def drawn_webs(count=300):
    """Webs of all sizes up to the bounds; few unlike prices, so that many ways cost the same."""
    rng = random.Random(20)
    webs = []
    for at in range(count):
        many = at % 8 + 1
        pairs = all_pairs(many)
        size = rng.randint(0, min(14, len(pairs)))
        top = rng.choice([1, 2, 3, 9])
        ties = [(a, b, rng.randint(1, top)) for a, b in rng.sample(pairs, size)]
        webs.append((many, turned(rng, ties)))
    return webs


def full_webs():
    """Webs at both bounds: eight houses and fourteen ties."""
    rng = random.Random(21)
    return [
        (8, turned(rng, [(a, b, rng.randint(1, top)) for a, b in rng.sample(all_pairs(8), 14)]))
        for top in (1, 2, 9)
        for at in range(4)
    ]


def near_prices(ties, house):
    """What is joined with a house, as a dict of prices."""
    near = {}
    for one, other, price in ties:
        if house in (one, other):
            near[one + other - house] = price
    return near


def prices_by_all_ways(many, ties, goal):
    """[4] by walking every way that comes to no house twice."""
    best = [None] * many
    near = [near_prices(ties, house) for house in range(many)]

    def walk(house, price, seen):
        if best[house] is None or price < best[house]:
            best[house] = price
        for other in near[house]:
            if other not in seen:
                walk(other, price + near[house][other], seen | {other})

    walk(goal, 0, {goal})
    return best


def nexts_by_the_words(many, ties, goal):
    best = prices_by_all_ways(many, ties, goal)
    told = []
    for house in range(many):
        near = near_prices(ties, house)
        fits = [other for other in sorted(near) if best[other] is not None and best[other] + near[other] == best[house]]
        told.append(fits[0] if fits and house != goal else None)
    return told


def way_by_the_words(many, ties, start, goal):
    """The pair (price, way), or the rising lot where there is no way."""
    best = prices_by_all_ways(many, ties, goal)
    if best[start] is None:
        return [house for house in range(many) if prices_by_all_ways(many, ties, house)[start] is not None]
    onward = nexts_by_the_words(many, ties, goal)
    way = (start,)
    while way[-1] != goal:
        way += (onward[way[-1]],)
    return best[start], way
