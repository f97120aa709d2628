"""The web: houses, ties, letters and tunnels, the deeds done to them, and the questions asked of them."""

from swapslip.acts import fell_tunnel, is_short, look_about, lose_house, take_letter, tell_slips
from swapslip.errors import BadPrice, BadWay, Broken, HasTie, NoLetter, NoTie, NotTaken, NoTunnel, Short, TooMany, Whole
from swapslip.houses import House
from swapslip.slips import make_slip
from swapslip.tunnels import Tunnel, lay_slip, lies_on
from swapslip.ways import MOST_HOUSES, MOST_PRICE, MOST_TIES, check_house, round_way


def sorted_pair(one, other):
    return (min(one, other), max(one, other))


def whole_ties(web):
    """The whole ties as triples, rising."""
    return [(one, other, price) for one, other, price, whole in web.ties() if whole]


def check_price(price):
    if not 1 <= price <= MOST_PRICE:
        raise BadPrice()


def house_state(home):
    """All that two equal webs have alike at a house."""
    holders = [sorted(home.stands[number].told) for number in sorted(home.stands)]
    return (home.sight, home.slip_rows(), holders, home.news, home.queue)


def web_state(web):
    """All that two equal webs have alike."""
    houses = [house_state(home) for home in web.homes]
    # A felled tunnel that is not ready means nothing any more, but its number was given.
    tunnels = [web.tunnels(), web.ready(), len(web.bores)]
    return (web.ranges(), web.bonds, houses, web.mail, tunnels, web.ever)


class Web:
    def __init__(self, ranges):
        if not 1 <= len(ranges) <= MOST_HOUSES:
            raise TooMany(MOST_HOUSES)
        self.homes = [House(name, low, high, len(ranges)) for name, (low, high) in enumerate(ranges)]
        # (price, whole) by pairs of houses, the lesser first.
        self.bonds = {}
        # The rows of letters by (sending house, other): two for each tie, and none but these.
        self.mail = {}
        # All tunnels ever laid; felled ones stay, for what was sent of them may still make them ready.
        self.bores = {}
        self.ever = 0
        for home in self.homes:
            make_slip(self, home, ("goal", home.name), None, (home.name,), [])

    def __eq__(self, other):
        return isinstance(other, Web) and web_state(self) == web_state(other)

    def __len__(self):
        return len(self.rows())

    def __repr__(self):
        return f"Web({len(self.homes)} houses, {len(self.bonds)} ties, {len(self)} slips)"

    def twin(self):
        new = Web(self.ranges())
        new.homes = [home.twin() for home in self.homes]
        new.bonds = {pair: self.bonds[pair] for pair in self.bonds}
        new.mail = {pair: list(self.mail[pair]) for pair in self.mail}
        new.bores = {number: self.bores[number].twin() for number in self.bores}
        new.ever = self.ever
        return new

    def check_houses(self, houses):
        for house in houses:
            check_house(len(self.homes), house)

    def check_tie(self, one, other):
        self.check_houses([one, other])
        if (one, other) not in self.mail:
            raise NoTie(one, other)

    def build(self, one, other, *, price=1):
        """Join two houses by a whole tie; each tells the other its live slips."""
        self.check_houses([one, other])
        if one == other:
            raise NoTie(one, other)
        low, high = sorted_pair(one, other)
        if (low, high) in self.bonds:
            raise HasTie()
        check_price(price)
        if len(self.bonds) >= MOST_TIES:
            raise TooMany(MOST_TIES)
        self.bonds[(low, high)] = (price, True)
        self.mail[(low, high)] = []
        self.mail[(high, low)] = []
        tell_slips(self, self.homes[low], high)
        tell_slips(self, self.homes[high], low)

    def cut(self, one, other):
        """Take a tie away, with all that went over it."""
        self.check_tie(one, other)
        low, high = sorted_pair(one, other)
        for number, path, lead in self.tunnels():
            if lies_on(path, low, high):
                fell_tunnel(self, number)
        del self.bonds[(low, high)]
        del self.mail[(low, high)]
        del self.mail[(high, low)]
        lose_house(self, self.homes[low], high)
        lose_house(self, self.homes[high], low)

    def snap(self, one, other):
        self.check_tie(one, other)
        price, whole = self.bonds[sorted_pair(one, other)]
        if not whole:
            raise Broken()
        self.bonds[sorted_pair(one, other)] = (price, False)

    def mend(self, one, other):
        self.check_tie(one, other)
        price, whole = self.bonds[sorted_pair(one, other)]
        if whole:
            raise Whole()
        self.bonds[sorted_pair(one, other)] = (price, True)

    def charge(self, one, other, *, price):
        self.check_tie(one, other)
        check_price(price)
        elder, whole = self.bonds[sorted_pair(one, other)]
        self.bonds[sorted_pair(one, other)] = (price, whole)

    def heed(self, house):
        self.check_houses([house])
        look_about(self, self.homes[house], whole_ties(self))

    def deliver(self, one, other):
        """Let the other house take the first letter that the one sent it, and tell the letter."""
        self.check_tie(one, other)
        price, whole = self.bonds[sorted_pair(one, other)]
        if not whole:
            raise Broken()
        if not self.mail[(one, other)]:
            raise NoLetter()
        letter = self.mail[(one, other)].pop(0)
        take_letter(self, self.homes[other], one, letter)
        return letter

    def settle(self):
        """Let all houses heed, and deliver until no letter can go; tell how many went."""
        for house in range(len(self.homes)):
            self.heed(house)
        went = 0
        rows = self.waiting()
        while rows:
            one, other, count = rows[0]
            self.deliver(one, other)
            went += 1
            rows = self.waiting()
        return went

    def tunnel(self, way):
        """Begin to lay a tunnel, from the last house of its way, and tell its number."""
        path = tuple(way)
        self.check_houses(path)
        if len(path) < 3 or len(set(path)) < len(path):
            raise BadWay()
        for one, other in zip(path, path[1:]):
            self.check_tie(one, other)
        last = self.homes[path[-1]]
        if not last.numbers.left():
            raise Short(last.name)
        number = len(self.bores) + 1
        self.bores[number] = Tunnel(path)
        lay_slip(self, last, number, path, None)
        return number

    def fell(self, number):
        if number not in self.bores or self.bores[number].felled:
            raise NoTunnel(number)
        fell_tunnel(self, number)

    def guard(self, one, other):
        """Lay a tunnel along the way round a tie, over the other whole ties."""
        self.check_tie(one, other)
        price, path = round_way(len(self.homes), whole_ties(self), one, other)
        return self.tunnel(path)

    def many(self):
        return len(self.homes)

    def ranges(self):
        return [(home.numbers.low, home.numbers.high) for home in self.homes]

    def ties(self):
        return [pair + self.bonds[pair] for pair in sorted(self.bonds)]

    def view(self, house):
        self.check_houses([house])
        return list(self.homes[house].sight)

    def want(self, house, goal):
        self.check_houses([house, goal])
        return self.homes[house].wants[goal]

    def live(self, house, goal):
        self.check_houses([house, goal])
        slip = self.homes[house].live_slip(("goal", goal))
        return None if slip is None else slip.number

    def way(self, house, goal):
        self.check_houses([house, goal])
        slip = self.homes[house].live_slip(("goal", goal))
        return None if slip is None else slip.path

    def heard(self, house):
        self.check_houses([house])
        news = self.homes[house].news
        return [key + news[key] for key in sorted(news)]

    def slips(self, house):
        self.check_houses([house])
        return self.homes[house].slip_rows()

    def rows(self):
        return [row for home in self.homes for row in home.slip_rows()]

    def holders(self, house, number):
        self.check_houses([house])
        stands = self.homes[house].stands
        if number not in stands:
            raise NotTaken(number)
        return sorted(stands[number].told)

    def letters(self, one, other):
        self.check_tie(one, other)
        return list(self.mail[(one, other)])

    def waiting(self):
        """The rows of whole ties that have letters, with how many."""
        counts = [(one, other, len(self.mail[(one, other)])) for one, other in sorted(self.mail)]
        return [(one, other, count) for one, other, count in counts
                if count and self.bonds[sorted_pair(one, other)][1]]

    def tunnels(self):
        """All tunnels that are not felled, with the pair to which a ready one leads."""
        bores = self.bores
        return [(number, bores[number].path, bores[number].lead) for number in sorted(bores)
                if not bores[number].felled]

    def ready(self):
        """All tunnels that are ready, felled or not, with the pair to which each leads."""
        bores = self.bores
        return [(number, bores[number].path, bores[number].lead) for number in sorted(bores)
                if bores[number].lead is not None]

    def short(self):
        return [home.name for home in self.homes if is_short(home)]

    def made(self):
        return self.ever
