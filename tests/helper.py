"""Webs to test with, and slow readings of the document to compare with.

Nothing here imports the program, so that no fault of it can hide here.
"""

import copy
import functools
import itertools
import random
import re
import unittest

# Houses that no web has: below nought and far beyond.
STRANGE_HOUSES = [-1, -2, -10 ** 39, 10 ** 39]


def strange_houses(many):
    return [many, many + 1] + STRANGE_HOUSES


def turned(rng, ties):
    """The same ties in another order, some the other way about."""
    mixed = [(b, a, price) if rng.random() < 0.5 else (a, b, price) for a, b, price in ties]
    rng.shuffle(mixed)
    return mixed


def all_pairs(many):
    return list(itertools.combinations(range(many), 2))


def small_webs():
    """Every web of at most three houses with prices 1 to 3, each tie both ways about."""
    webs = []
    for many in range(1, 4):
        for prices in itertools.product([None, 1, 2, 3], repeat=len(all_pairs(many))):
            ties = [(a, b, price) for (a, b), price in zip(all_pairs(many), prices) if price]
            webs.append((many, ties))
            webs.append((many, [(b, a, price) for a, b, price in reversed(ties)]))
    return webs


def drawn_webs(count=300):
    """Webs of all sizes up to the bounds; few unlike prices, so that many ways cost the same."""
    rng = random.Random(20)
    webs = []
    for at in range(count):
        many = at % 8 + 1
        pairs = all_pairs(many)
        size = rng.randint(0, min(14, len(pairs)))
        top = rng.choice([1, 2, 3, 9])
        ties = [(a, b, rng.randint(1, top)) for a, b in rng.sample(pairs, size)]
        webs.append((many, turned(rng, ties)))
    return webs


def full_webs():
    """Webs at both bounds: eight houses and fourteen ties."""
    rng = random.Random(21)
    return [
        (8, turned(rng, [(a, b, rng.randint(1, top)) for a, b in rng.sample(all_pairs(8), 14)]))
        for top in (1, 2, 9)
        for at in range(4)
    ]


def near_prices(ties, house):
    """What is joined with a house, as a dict of prices."""
    near = {}
    for one, other, price in ties:
        if house in (one, other):
            near[one + other - house] = price
    return near


def prices_by_all_ways(many, ties, goal):
    """[4] by walking every way that comes to no house twice."""
    best = [None] * many
    near = [near_prices(ties, house) for house in range(many)]

    def walk(house, price, seen):
        if best[house] is None or price < best[house]:
            best[house] = price
        for other in near[house]:
            if other not in seen:
                walk(other, price + near[house][other], seen | {other})

    walk(goal, 0, {goal})
    return best


def nexts_by_the_words(many, ties, goal):
    best = prices_by_all_ways(many, ties, goal)
    told = []
    for house in range(many):
        near = near_prices(ties, house)
        fits = [other for other in sorted(near) if best[other] is not None and best[other] + near[other] == best[house]]
        told.append(fits[0] if fits and house != goal else None)
    return told


# Asked over and over for few views.
wanted_by_the_words = functools.lru_cache(maxsize=None)(nexts_by_the_words)


def way_by_the_words(many, ties, start, goal):
    """The pair (price, way), or the rising lot where there is no way."""
    best = prices_by_all_ways(many, ties, goal)
    if best[start] is None:
        return [house for house in range(many) if prices_by_all_ways(many, ties, house)[start] is not None]
    onward = nexts_by_the_words(many, ties, goal)
    way = (start,)
    while way[-1] != goal:
        way += (onward[way[-1]],)
    return best[start], way


class Refused(Exception):
    """A refusal of the slow web: its word, and its fields as a dict."""

    def __init__(self, word, **fields):
        super().__init__(word)
        self.told = (word, fields)


def done(web, deed):
    """What a deed at a web comes to: ("told", what is told), or ("refused", word, fields)."""
    word, *things = deed
    named = {"price": things.pop()} if word in ("build", "charge") else {}
    try:
        return "told", getattr(web, word)(*things, **named)
    except ValueError as refused:
        fields = dict(vars(refused))
        return "refused", fields.pop("word"), fields


def questions(web):
    """Each question that can be asked of a web as it stands, as a tuple of its name and things."""
    asked = [(name,) for name in "many ranges made waiting ties rows tunnels short".split()]
    for house in range(web.many()):
        asked += [(name, house) for name in "view slips heard".split()]
        asked += [("holders", house, row[1]) for row in web.slips(house)]
        asked += [(name, house, goal) for name in "want live way".split() for goal in range(web.many())]
    for one, other, price, whole in web.ties():
        asked += [("letters", one, other), ("letters", other, one)]
    return asked


def told(web):
    """What a web tells at all questions."""
    return {asked: getattr(web, asked[0])(*asked[1:]) for asked in questions(web)}


def pair_rows(rows, what):
    """Of rows of slips for something: (house, number, out, mood)."""
    return [(row[0], row[1], row[3], row[6]) for row in rows if row[2] == what]


class WebTest(unittest.TestCase):
    def assert_refused(self, web, word, fields, *deed):
        """The deed is refused so, and nothing is changed by it."""
        before, twin = told(web), web.twin()
        self.assertEqual(done(web, deed), ("refused", word, fields), deed)
        self.assertEqual(told(web), before, deed)
        self.assertTrue(web == twin, deed)

    def assert_done(self, web, *deed):
        self.assertEqual(done(web, deed), ("told", None), deed)

    def assert_asked_refused(self, web, word, fields, question, *things):
        with self.assertRaises(ValueError, msg=(question, things)) as held:
            getattr(web, question)(*things)
        self.assertEqual(vars(held.exception), dict(fields, word=word), (question, things))

    def assert_letters(self, web, one, other, *letters):
        self.assertEqual(web.letters(one, other), list(letters))

    def assert_comes(self, web, *deliveries):
        """Letters, each as (one, other, letter), that are delivered one by one."""
        for one, other, letter in deliveries:
            self.assertEqual(web.deliver(one, other), letter)


class SlowWeb:
    """[3] and [8] to [24] word by word: flat lists, nothing reckoned ahead and nothing kept twice."""

    def __init__(self, ranges):
        self.span = list(ranges)
        self.houses = range(len(ranges))
        self.tie = {}  # the pair, lesser house first: [price, whole]
        self.views = [[] for house in self.houses]
        self.stand = []  # slips, as dicts
        self.ear = {}  # (house, other, goal): (number, way)
        self.post = []  # (one, other, letter), as they were sent
        self.bore = []  # tunnels, as dicts
        self.wait = []  # (house, other, tunnel, number, way), as their letters came
        self.ages = 0
        self.free = set()  # houses at which a number came free
        for house in self.houses:
            self.make(house, ("goal", house), None, (house,), [])

    # Refusals

    def look_houses(self, *houses):
        for house in houses:
            if house not in self.houses:
                raise Refused("nohouse", house=house)

    def look_tie(self, one, other):
        self.look_houses(one, other)
        if tuple(sorted((one, other))) not in self.tie:
            raise Refused("notie", one=one, other=other)
        return self.tie[tuple(sorted((one, other)))]

    # Slips

    def near(self, house):
        return [other for other in self.houses if tuple(sorted((house, other))) in self.tie]

    def number(self, house):
        low, high = self.span[house]
        taken = [slip["number"] for slip in self.stand if slip["house"] == house]
        return next((number for number in range(low, high + 1) if number not in taken), None)

    def make(self, house, what, out, way, holders):
        self.ages += 1
        slip = dict(house=house, number=self.number(house), what=what, out=out, way=way, age=self.ages, mood="live")
        slip["holders"] = list(holders)
        self.stand.append(slip)
        return slip["number"]

    def at(self, house):
        return sorted([slip for slip in self.stand if slip["house"] == house], key=lambda slip: slip["number"])

    def live_ones(self, house, what):
        return [slip for slip in self.at(house) if slip["what"] == what and slip["mood"] == "live"]

    def void(self, slip):
        for holder in sorted(slip["holders"]):
            self.post.append((slip["house"], holder, ("void", slip["number"])))

    def maybe_free(self, slip):
        if slip["mood"] != "live" and slip["holders"] == []:
            self.stand = [each for each in self.stand if each["age"] != slip["age"]]
            self.free.add(slip["house"])

    def withdraw(self, slip):
        slip["mood"] = "old"
        self.void(slip)
        self.maybe_free(slip)

    def die(self, slip):
        was, slip["mood"] = slip["mood"], "dead"
        if was == "live":
            self.void(slip)
        self.maybe_free(slip)

    def wanted(self, house, goal):
        return wanted_by_the_words(len(self.houses), tuple(self.views[house]), goal)[house]

    def lacks(self, house, goal):
        """The heard (number, way) by which the house would make a slip, or None."""
        want = self.wanted(house, goal)
        number, way = self.ear.get((house, want, goal), (None, None))
        if house == goal or number is None or house in way:
            return None
        if any(slip["out"] == (want, number) for slip in self.live_ones(house, ("goal", goal))):
            return None
        return number, way

    def try_goal(self, house, goal):
        want = self.wanted(house, goal)
        elders = self.live_ones(house, ("goal", goal))
        if house != goal and want is None:
            for slip in elders:
                self.withdraw(slip)
        elif self.lacks(house, goal) and self.number(house) is not None:
            number, way = self.lacks(house, goal)
            own = (house,) + way
            new = self.make(house, ("goal", goal), (want, number), own, self.near(house))
            for other in self.near(house):
                self.post.append((house, other, ("tell", goal, new, own)))
            for slip in elders:
                self.withdraw(slip)

    def behind(self, house):
        while house in self.free:
            self.free.discard(house)
            for goal in self.houses:
                self.try_goal(house, goal)
            for waiting in [each for each in self.wait if each[0] == house]:
                if self.number(house) is not None:
                    self.wait.remove(waiting)
                    self.lay(*waiting)

    # Letters

    def take(self, house, other, letter):
        word, *things = letter
        getattr(self, "take_" + word)(house, other, *things)
        self.behind(house)

    def take_tell(self, house, other, goal, number, way):
        self.ear[(house, other, goal)] = (number, way)
        self.try_goal(house, goal)

    def take_void(self, house, other, number):
        for key in list(self.ear):
            if key[:2] == (house, other) and self.ear[key][0] == number:
                del self.ear[key]
        self.post.append((house, other, ("back", number)))
        died = []
        for slip in self.at(house):
            if slip["out"] == (other, number) and slip["mood"] in ("live", "old"):
                if slip["mood"] == "live":
                    died.append(slip["what"])
                self.die(slip)
        for bore in self.bore:
            if bore["way"][0] == house and bore["out"] == (other, number):
                bore["out"] = None
        self.wait = [each for each in self.wait if (each[0], each[1], each[3]) != (house, other, number)]
        for kind, goal in sorted(died):
            if kind == "goal":
                self.try_goal(house, goal)

    def take_back(self, house, other, number):
        for slip in self.at(house):
            if slip["number"] == number:
                slip["holders"].remove(other)
                self.maybe_free(slip)

    def take_lay(self, house, other, tunnel, number, way):
        if house == way[0]:
            self.bore[tunnel - 1]["out"] = (other, number)
        elif way[way.index(house) - 1] in self.near(house):
            if self.number(house) is None:
                self.wait.append((house, other, tunnel, number, way))
            else:
                self.lay(house, other, tunnel, number, way)

    def lay(self, house, other, tunnel, number, way):
        place = way.index(house)
        out = None if other is None else (other, number)
        own = self.make(house, ("tunnel", tunnel), out, way[place:], [way[place - 1]])
        self.post.append((house, way[place - 1], ("lay", tunnel, own, way)))

    # Deeds

    def do(self, deed):
        """As `done` tells."""
        word, *things = deed
        try:
            return "told", getattr(self, "do_" + word)(*things)
        except Refused as refused:
            return ("refused",) + refused.told

    def do_build(self, one, other, price):
        self.look_houses(one, other)
        if one == other:
            raise Refused("notie", one=one, other=other)
        if other in self.near(one):
            raise Refused("hastie")
        if price not in range(1, 10):
            raise Refused("badprice")
        if len(self.tie) == 14:
            raise Refused("toomany", bound=14)
        low, high = sorted((one, other))
        self.tie[(low, high)] = [price, True]
        for house, far_one in ((low, high), (high, low)):
            for goal in self.houses:
                for slip in self.live_ones(house, ("goal", goal)):
                    slip["holders"].append(far_one)
                    self.post.append((house, far_one, ("tell", goal, slip["number"], slip["way"])))

    def do_cut(self, one, other):
        self.look_tie(one, other)
        low, high = sorted((one, other))
        for bore in self.bore:
            steps = [sorted(step) for step in zip(bore["way"], bore["way"][1:])]
            if [low, high] in steps and not bore["felled"]:
                self.do_fell(bore["number"])
        del self.tie[(low, high)]
        self.post = [each for each in self.post if sorted(each[:2]) != [low, high]]
        self.cut_part(low, high)
        self.cut_part(high, low)

    def cut_part(self, house, other):
        self.ear = {key: self.ear[key] for key in self.ear if key[:2] != (house, other)}
        for slip in self.at(house):
            slip["holders"] = [holder for holder in slip["holders"] if holder != other]
            if slip["out"] is not None and slip["out"][0] == other and slip["mood"] != "dead":
                self.die(slip)
            self.maybe_free(slip)
        for bore in self.bore:
            if bore["way"][0] == house and bore["out"] is not None and bore["out"][0] == other:
                bore["out"] = None
        self.wait = [
            each for each in self.wait
            if each[0] != house or (each[1] != other and each[4][each[4].index(house) - 1] != other)
        ]
        for goal in self.houses:
            self.try_goal(house, goal)
        self.behind(house)

    def do_snap(self, one, other):
        tie = self.look_tie(one, other)
        if not tie[1]:
            raise Refused("broken")
        tie[1] = False

    def do_mend(self, one, other):
        tie = self.look_tie(one, other)
        if tie[1]:
            raise Refused("whole")
        tie[1] = True

    def do_charge(self, one, other, price):
        tie = self.look_tie(one, other)
        if price not in range(1, 10):
            raise Refused("badprice")
        tie[0] = price

    def whole(self):
        return [(one, other, self.tie[(one, other)][0]) for one, other in sorted(self.tie) if self.tie[(one, other)][1]]

    def do_heed(self, house):
        self.look_houses(house)
        self.views[house] = self.whole()
        for goal in self.houses:
            self.try_goal(house, goal)
        self.behind(house)

    def row(self, one, other):
        return [each for each in self.post if each[:2] == (one, other)]

    def do_deliver(self, one, other):
        tie = self.look_tie(one, other)
        if not tie[1]:
            raise Refused("broken")
        row = self.row(one, other)
        if not row:
            raise Refused("noletter")
        self.post.remove(row[0])
        self.take(other, one, row[0][2])
        return row[0][2]

    def do_settle(self):
        for house in self.houses:
            self.do_heed(house)
        count = 0
        while self.waiting():
            self.do_deliver(*self.waiting()[0][:2])
            count += 1
        return count

    def do_tunnel(self, way):
        self.look_houses(*way)
        if len(way) < 3 or len(way) != len(set(way)):
            raise Refused("badway")
        for one, other in zip(way, way[1:]):
            self.look_tie(one, other)
        if self.number(way[-1]) is None:
            raise Refused("short", house=way[-1])
        self.bore.append(dict(number=len(self.bore) + 1, way=tuple(way), out=None, felled=False))
        self.lay(way[-1], None, len(self.bore), None, tuple(way))
        return len(self.bore)

    def do_fell(self, number):
        if number not in range(1, len(self.bore) + 1) or self.bore[number - 1]["felled"]:
            raise Refused("notunnel", number=number)
        bore = self.bore[number - 1]
        bore["felled"] = True
        for slip in self.live_ones(bore["way"][-1], ("tunnel", number)):
            self.withdraw(slip)
        self.behind(bore["way"][-1])

    def do_guard(self, one, other):
        self.look_tie(one, other)
        ties = [tie for tie in self.whole() if set(tie[:2]) != {one, other}]
        told = way_by_the_words(len(self.houses), ties, one, other)
        if isinstance(told, list):
            raise Refused("lone", lot=told)
        return self.do_tunnel(told[1])

    # Questions

    def waiting(self):
        pairs = [(one, other) for one in self.houses for other in self.near(one) if self.look_tie(one, other)[1]]
        return [(one, other, len(self.row(one, other))) for one, other in pairs if self.row(one, other)]

    def ready(self):
        return [(bore["number"], bore["way"], bore["out"]) for bore in self.bore if bore["out"] is not None]

    def slip_rows(self, house):
        return [tuple(slip[key] for key in "house number what out way age mood".split()) for slip in self.at(house)]

    def all_told(self):
        """What each question of a web tells, by its name and the things handed in."""
        told = {("many",): len(self.houses), ("ranges",): self.span, ("made",): self.ages, ("waiting",): self.waiting()}
        told[("ties",)] = [pair + tuple(self.tie[pair]) for pair in sorted(self.tie)]
        told[("rows",)] = [row for house in self.houses for row in self.slip_rows(house)]
        told[("tunnels",)] = [(bore["number"], bore["way"], bore["out"]) for bore in self.bore if not bore["felled"]]
        told[("short",)] = [
            house for house in self.houses
            if any(each[0] == house for each in self.wait) or any(self.lacks(house, goal) for goal in self.houses)
        ]
        for house in self.houses:
            told[("view", house)] = self.views[house]
            told[("slips", house)] = self.slip_rows(house)
            told[("heard", house)] = [key[1:] + self.ear[key] for key in sorted(self.ear) if key[0] == house]
            for slip in self.at(house):
                told[("holders", house, slip["number"])] = sorted(slip["holders"])
            for other in self.near(house):
                told[("letters", house, other)] = [each[2] for each in self.row(house, other)]
            for goal in self.houses:
                live = self.live_ones(house, ("goal", goal))
                told[("want", house, goal)] = self.wanted(house, goal)
                told[("live", house, goal)] = live[0]["number"] if live else None
                told[("way", house, goal)] = live[0]["way"] if live else None
        return told

    def send(self, house, goal):
        """[19] to [21]."""
        if house == goal:
            return ("came", goal), [(house, ())]
        live = self.live_ones(house, ("goal", goal))
        if not live:
            return ("slip", house), [(house, ())]
        numbers = [live[0]["number"]]
        steps = [(house, tuple(numbers))]
        while True:
            slip = [slip for slip in self.at(house) if slip["number"] == numbers[-1]][0]
            if slip["mood"] == "dead":
                return ("dead", house), steps
            if slip["out"] is None:
                numbers.pop()
                if not numbers:
                    return ("came", house), steps
                continue
            other, number = slip["out"]
            if not self.look_tie(house, other)[1]:
                round_it = [out for at, way, out in self.ready() if way[0] == house and way[-1] == other]
                if len(numbers) == 2 or not round_it or not self.look_tie(house, round_it[0][0])[1]:
                    return ("broken", house, other), steps
                numbers = [number, round_it[0][1]]
                house = round_it[0][0]
            else:
                numbers[-1] = number
                house = other
            steps.append((house, tuple(numbers)))


def drawn_way(rng, slow):
    """Houses from tie to tie, mostly one that a tunnel can have."""
    way = [rng.choice(slow.houses)]
    for turn in range(rng.randint(1, 7)):
        onward = [house for house in slow.near(way[-1]) if house not in way or rng.random() < 0.03]
        if not onward:
            break
        way.append(rng.choice(onward))
    return tuple(way)


def likely_deeds(rng, slow):
    """Deeds that can be done, or nearly so, each word as often as it shall be drawn."""
    whole = [pair for pair in sorted(slow.tie) if slow.tie[pair][1]]
    broken = [pair for pair in sorted(slow.tie) if not slow.tie[pair][1]]
    gaps = [pair for pair in all_pairs(len(slow.houses)) if pair not in slow.tie]
    deeds = [("heed", rng.choice(slow.houses))] * 4 + [("tunnel", drawn_way(rng, slow))] * 3 + [("settle",)]
    deeds += [("deliver",) + rng.choice(slow.waiting())[:2]] * 20 if slow.waiting() else []
    deeds += [("fell", rng.randint(1, len(slow.bore)))] if slow.bore else []
    for pairs, words in ((whole, ["snap"] * 2 + ["guard"] * 3 + ["cut", "charge"]), (broken, ["mend"] * 4 + ["guard"]),
                         (gaps, ["build"] * 3)):
        deeds += [(word,) + tuple(rng.sample(rng.choice(pairs), 2)) for word in words if pairs]
    return [deed + (rng.choice([1, 1, 2, 3, 9]),) if deed[0] in ("build", "charge") else deed for deed in deeds]


def strange_deed(rng, slow):
    """A deed with things drawn blindly, most often refused."""
    houses = list(slow.houses) * 4 + strange_houses(len(slow.houses))
    pair = (rng.choice(houses), rng.choice(houses))
    word = rng.choice("build cut snap mend charge heed deliver tunnel fell guard".split())
    things = {
        "build": pair + (rng.choice([-1, 0, 1, 9, 10, 11, 10 ** 39]),),
        "charge": pair + (rng.choice([-1, 0, 1, 9, 10, 11, 10 ** 39]),),
        "heed": pair[:1],
        "tunnel": (tuple(rng.choice(houses) for turn in range(rng.randint(0, 4))),),
        "fell": (rng.choice([-1, 0, len(slow.bore), len(slow.bore) + 1, 10 ** 39]),),
    }
    return (word,) + things.get(word, pair)


def drawn_deed(rng, slow):
    """A deed for a web as it stands: mostly one that can be done, at times a wrong one."""
    return strange_deed(rng, slow) if rng.random() < 0.1 else rng.choice(likely_deeds(rng, slow))


def first_deeds(rng, many):
    """Ties for a web at its beginning; of most some are guarded, all is settled, and the guarded ones break."""
    pairs = rng.sample(all_pairs(many), rng.randint(0, min(14, len(all_pairs(many)))))
    deeds = [("build", one, other, rng.choice([1, 1, 2, 3, 9])) for one, other in pairs]
    guarded = [tuple(rng.sample(pair, 2)) for pair in pairs if rng.random() < 0.3]
    if rng.random() < 0.2:
        return deeds
    deeds += [("settle",)] + [("guard",) + pair for pair in guarded] + [("settle",)]
    return deeds + [("snap",) + pair for pair in guarded]


def drawn_ranges(rng, many, wide):
    """Ranges that begin at unlike numbers, so that a number of one house is none of another."""
    return [(20 * at + 1, 20 * at + (20 if wide else rng.randint(1, many + 2))) for at in range(many)]


def row_faults(ranges, rows):
    """[22], and that numbers lie in their ranges: all faults, as texts."""
    faults = []
    stands = {(row[0], row[1]): row for row in rows}
    if len(stands) != len(rows):
        faults.append("two under one number")
    for house, number, what, out, way, age, mood in rows:
        if not ranges[house][0] <= number <= ranges[house][1]:
            faults.append(f"{house} {number} out of its range")
        if way[0] != house or (what[0] == "goal" and way[-1] != what[1]):
            faults.append(f"{house} {number} has a wrong way")
        if mood == "dead":
            continue
        if out is None:
            if len(way) != 1:
                faults.append(f"{house} {number} leads to none ahead of its end")
        elif out not in stands:
            faults.append(f"{house} {number} leads to what is gone")
        else:
            further = stands[out]
            if further[2] != what or further[4] != way[1:] or further[5] >= age:
                faults.append(f"{house} {number} leads to another slip")
    return faults


def way_with_tunnels(way, ties, ready):
    """[22]: the houses along a slip's way, with tunnels put in for broken ties."""
    whole = {(tie[0], tie[1]): tie[3] for tie in ties}
    houses = [way[0]]
    for one, other in zip(way, way[1:]):
        if not whole[tuple(sorted((one, other)))]:
            houses += [path for number, path, out in ready if (path[0], path[-1]) == (one, other)][0][1:-1]
        houses.append(other)
    return houses


FAULTS = "twice range way end gone other rest age".split()


def row_words(ranges, rows, at):
    """[25]: all words for what is wrong with a row, as a set, each looked for without regard to the others."""
    house, number, what, out, way, age, mood = rows[at]
    words = set()
    if any(row[:2] == (house, number) for row in rows[:at]):
        words.add("twice")
    if house not in range(len(ranges)) or number not in range(ranges[house][0], ranges[house][1] + 1):
        words.add("range")
    if list(way[:1]) != [house] or (what[0] == "goal" and list(way[-1:]) != [what[1]]):
        words.add("way")
    if mood == "dead":
        return words
    if (out is None and len(way) > 1) or (out is not None and len(way) == 1):
        words.add("end")
    there = [row for row in rows if row[:2] == out]
    if out is not None and not there:
        words.add("gone")
    for further in there[:1]:
        words |= {"other"} if further[2] != what else set()
        words |= {"rest"} if list(further[4]) != list(way[1:]) else set()
        words |= {"age"} if further[5] >= age else set()
    return words


def fault_by_the_words(ranges, rows):
    for at, row in enumerate(rows):
        words = row_words(ranges, rows, at)
        if words:
            return min(words, key=FAULTS.index), row[0], row[1]
    return None


def cover_by_the_words(slow):
    """[26]"""
    told = []
    for house in slow.houses:
        for other in slow.near(house):
            numbers = [number for number, way, out in slow.ready() if (way[0], way[-1]) == (house, other)]
            ties = [tie for tie in slow.whole() if set(tie[:2]) != {house, other}]
            found = way_by_the_words(len(slow.houses), ties, house, other)
            way, lot = (None, found) if isinstance(found, list) else (found[1], None)
            told.append((house, other, min(numbers, default=None), way, lot))
    return told


# [27]: how many things each deed has beside its word, and of what kind.
DEED_FORMS = {
    "build": "NNN", "cut": "NN", "snap": "NN", "mend": "NN", "charge": "NNN", "heed": "N", "deliver": "NN", "settle": "",
    "tunnel": "W", "fell": "N", "guard": "NN",
}

# [31]: what can be said at a desk beside deeds.
ASK_FORMS = {"undo": "", "redo": "", "send": "NN", "slips": "N", "way": "NN", "letters": "NN"}

NUMBER = "(0|[1-9][0-9]{0,5})"


def read_by_the_words(forms, line):
    """The tuple of a word and its things that a line writes by one of the forms, or None."""
    for word in forms:
        things = {"N": NUMBER, "W": f"{NUMBER}([.]{NUMBER})*"}
        if re.fullmatch(" ".join([word] + [things[form] for form in forms[word]]), line, re.ASCII):
            parts = zip(forms[word], line.split(" ")[1:])
            return (word,) + tuple(int(part) if form == "N" else tuple(map(int, part.split("."))) for form, part in parts)
    return None


def texts_of(*things):
    """Words, numbers and ways with a blank between."""
    return " ".join(".".join(map(str, thing)) if isinstance(thing, (tuple, list)) else str(thing) for thing in things)


def own_form(deed):
    """A deed with its ways as tuples."""
    return tuple(tuple(thing) if isinstance(thing, list) else thing for thing in deed)


class SlowPost:
    """[27], [28] and [31] word by word: each step is its deeds and a copy of the whole slow web behind it."""

    def __init__(self, ranges):
        self.ranges = ranges
        self.steps = [([], SlowWeb(ranges))]
        self.undone = []

    def web(self):
        return self.steps[-1][1]

    def deeds(self):
        return [deed for deeds, web in self.steps for deed in deeds]

    def depth(self):
        return len(self.steps) - 1, len(self.undone)

    def do(self, deed):
        """As `done` tells."""
        if deed[0] not in DEED_FORMS or len(deed) - 1 != len(DEED_FORMS[deed[0]]):
            return "refused", "baddeed", {"said": deed[0]}
        web = copy.deepcopy(self.web())
        came_to = web.do(deed)
        if came_to[0] == "told":
            self.steps.append(([own_form(deed)], web))
            self.undone = []
        return came_to

    def run(self, deeds):
        probe = SlowPost(self.ranges)
        probe.steps = list(self.steps)
        came_to = []
        for at, deed in enumerate(deeds):
            came_to.append(probe.do(deed))
            if came_to[-1][0] == "refused":
                return "refused", "stopped", {"at": at, "kind": came_to[-1][1]}
        if deeds:
            self.steps.append(([own_form(deed) for deed in deeds], probe.web()))
            self.undone = []
        return "told", [each[1] for each in came_to]

    def undo(self):
        if len(self.steps) == 1:
            return "refused", "nothing", {}
        self.undone.append(self.steps.pop())
        return "told", None

    def redo(self):
        if not self.undone:
            return "refused", "nothing", {}
        self.steps.append(self.undone.pop())
        return "told", None

    def page(self):
        first = ["post"] + [f"{low}-{high}" for low, high in self.ranges]
        return "".join(line + "\n" for line in [" ".join(first)] + [texts_of(*deed) for deed in self.deeds()])

    def say(self, line):
        deed = read_by_the_words(DEED_FORMS, line)
        asked = read_by_the_words(ASK_FORMS, line)
        if deed is None and asked is None:
            return "what"
        came_to = self.do(deed) if deed is not None else self.ask(*asked)
        if came_to[0] == "refused":
            return "no " + came_to[1]
        told = came_to[1]
        return "done" if told is None else texts_of(*told) if isinstance(told, tuple) else str(told)

    def ask(self, word, *things):
        if word in ("undo", "redo"):
            return getattr(self, word)()
        web = self.web()
        try:
            web.look_houses(*things)
            if word == "letters":
                web.look_tie(*things)
        except Refused as refused:
            return ("refused",) + refused.told
        if word == "send":
            end, steps = web.send(*things)
            return "told", end + ([house for house, numbers in steps],)
        if word == "letters":
            return "told", len(web.row(*things))
        if word == "way":
            live = web.live_ones(things[0], ("goal", things[1]))
            return "told", (live[0]["way"],) if live else "none"
        return "told", tuple(f"{row[1]}.{row[2][0]}{row[2][1]}.{row[6]}" for row in web.slip_rows(*things))


def good_range(low, high):
    """[7]"""
    return low >= 1 and high >= low and high - low < 64 and high < 10000


def read_page_by_the_words(text):
    """[30]: the place of the first wrong line, or a slow post."""
    lines = re.findall("[^\n]*\n|[^\n]+", text)
    slow = None
    for at, line in enumerate(lines or [""]):
        if line[-1:] != "\n":
            return at
        if at:
            deed = read_by_the_words(DEED_FORMS, line[:-1])
            if deed is None or slow.do(deed)[0] == "refused":
                return at
        elif re.fullmatch(f"post( {NUMBER}-{NUMBER})+\n", line):
            ranges = [tuple(map(int, word.split("-"))) for word in line.split()[1:]]
            if len(ranges) > 8 or not all(good_range(low, high) for low, high in ranges):
                return at
            slow = SlowPost(ranges)
        else:
            return at
    return slow


class Seen:
    """What `likely_deeds` and `strange_deed` draw from, of a web of the program."""

    def __init__(self, web, laid):
        self.houses = range(web.many())
        self.tie = {tie[:2]: tie[2:] for tie in web.ties()}
        self.bore = [None] * laid
        self.waiting = web.waiting

    def near(self, house):
        return [other for other in self.houses if tuple(sorted((house, other))) in self.tie]


def spoil(told):
    """Change each list that is told, and each list in it."""
    if isinstance(told, (list, tuple)):
        for thing in told:
            spoil(thing)
    if isinstance(told, list):
        told.reverse()
        told.append("spoilt")
        told[0] = "spoilt"


def asked_twice(ask):
    """What a question tells the second time, where all that it told the first time was spoilt."""
    first = ask()
    kept = copy.deepcopy(first)
    spoil(first)
    return kept, ask()


def lost_goals(web):
    """[23]: whether it speaks of this web as it stands, and if so, all that is not as it says."""
    whole = [tie[:3] for tie in web.ties() if tie[3]]
    houses = range(web.many())
    if web.short() or web.waiting() or any(web.view(house) != whole for house in houses):
        return None
    faults = []
    for house in houses:
        for goal in houses:
            found = way_by_the_words(web.many(), whole, house, goal)
            way = None if isinstance(found, list) else found[1]
            if web.way(house, goal) != way or (web.live(house, goal) is None) != (way is None):
                faults.append((house, goal))
    return faults


def called(ask, *things):
    """What a call comes to, as `done` tells it."""
    try:
        return "told", ask(*things)
    except ValueError as refused:
        fields = dict(vars(refused))
        return "refused", fields.pop("word"), fields


def post_told(post):
    """All that a post tells of itself and of its web, both steps back and again counted."""
    return post.deeds(), post.depth(), len(post), told(post.web())


def replayed(web, deeds):
    """The web behind deeds that are done to it by its own methods."""
    for deed in deeds:
        done(web, deed)
    return web
