"""What the document promises over the whole program: [1], [2], [22], [23] and the head of the interface."""

import copy
import inspect
import itertools
import random
import unittest

import helper
from helper import asked_twice, called, done, lost_goals, post_told, told
from swapslip import desk, errors, frames, letters, looks, pages, post, ranges, ways, web
from swapslip.desk import Desk
from swapslip.errors import SlipError
from swapslip.frames import send
from swapslip.looks import audit, cover
from swapslip.pages import page
from swapslip.post import Post
from swapslip.web import Web

FAR = 10 ** 39
RANGES = [(1, 19), (21, 39), (41, 59), (61, 79)]
RING = [("build", 0, 1, 1), ("build", 1, 2, 2), ("build", 2, 3, 1), ("build", 0, 3, 1)]
TIES = [(0, 1, 1), (1, 2, 2), (2, 3, 1), (0, 3, 1)]


def ring_post():
    """A settled ring with a tunnel that is ready, one that is being laid, and a step to do again."""
    made = Post(RANGES)
    made.run(RING + [("settle",), ("guard", 0, 1), ("settle",), ("tunnel", (0, 1, 2))])
    made.do(("heed", 0))
    made.undo()
    return made


def ring():
    return ring_post().web()


def parted():
    """Houses 0 and 1 are joined, 2 and 3 are, and the tie of these is broken."""
    made = Web([(1, 1), (11, 19), (21, 29), (31, 39)])
    made.build(0, 1)
    made.build(2, 3)
    made.snap(2, 3)
    return made


def short_web():
    made = Web([(1, 1), (11, 19), (21, 29)])
    for one, other in ((0, 1), (1, 2), (0, 2)):
        made.build(one, other)
    return made


def full_web():
    made = Web([(1, 9)] * 8)
    for one, other in helper.all_pairs(8)[:14]:
        made.build(one, other)
    return made


def full_numbers():
    made = ranges.Numbers(4, 4)
    made.take()
    return made


def refused_calls():
    """Calls that are refused, as (class name, fields, call)."""
    return [
        ("BadRange", {}, lambda: ranges.Numbers(0, 5)), ("BadRange", {}, lambda: Web([(1, 9), (2, 1)])),
        ("BadRange", {}, lambda: Post([(1, 65)])), ("TooMany", {"bound": 8}, lambda: Web([])),
        ("TooMany", {"bound": 8}, lambda: Post([(0, 0)] * 9)), ("NoNumber", {}, lambda: full_numbers().take()),
        ("NotTaken", {"number": 5}, lambda: full_numbers().give(5)),
        ("NotTaken", {"number": -FAR}, lambda: ring().holders(0, -FAR)),
        ("NoHouse", {"house": 4}, lambda: ways.far(4, TIES, 4)),
        ("NoHouse", {"house": -1}, lambda: ways.nexts(4, TIES, -1)),
        ("NoHouse", {"house": 9}, lambda: ways.least_way(4, TIES, 9, 8)),
        ("NoHouse", {"house": FAR}, lambda: ways.far_holds(4, TIES, FAR, [])),
        ("NoHouse", {"house": 5}, lambda: ways.round_way(4, TIES, 0, 5)),
        ("NoHouse", {"house": 5}, lambda: ways.round_way(4, TIES, 5, 5)),
        ("NoTie", {"one": 2, "other": 2}, lambda: ways.round_way(4, TIES, 2, 2)),
        ("NoWay", {"lot": [0, 1]}, lambda: ways.least_way(4, [(1, 0, 3)], 1, 3)),
        ("Lone", {"lot": [1]}, lambda: ways.round_way(4, [(1, 0, 3)], 1, 0)),
        ("Lone", {"lot": [0]}, lambda: parted().guard(0, 1)),
        ("BadLetter", {}, lambda: letters.read_letter("tell 3")),
        ("HasTie", {}, lambda: ring().build(1, 0)), ("NoTie", {"one": 3, "other": 3}, lambda: ring().build(3, 3)),
        ("BadPrice", {}, lambda: ring().build(0, 2, price=10)), ("BadPrice", {}, lambda: ring().charge(0, 1, price=0)),
        ("TooMany", {"bound": 14}, lambda: full_web().build(6, 7)),
        ("NoTie", {"one": 2, "other": 0}, lambda: ring().cut(2, 0)), ("Broken", {}, lambda: parted().snap(3, 2)),
        ("Broken", {}, lambda: parted().deliver(3, 2)), ("Whole", {}, lambda: ring().mend(0, 1)),
        ("NoLetter", {}, lambda: ring().deliver(0, 1)), ("BadWay", {}, lambda: ring().tunnel([0, 1])),
        ("NoTie", {"one": 1, "other": 3}, lambda: ring().tunnel([0, 1, 3])),
        ("Short", {"house": 0}, lambda: short_web().tunnel([1, 2, 0])), ("Short", {"house": 0}, lambda: short_web().guard(1, 0)),
        ("NoTunnel", {"number": 7}, lambda: ring().fell(7)), ("NoTie", {"one": 0, "other": 2}, lambda: ring().letters(0, 2)),
        ("NoHouse", {"house": 4}, lambda: send(ring(), 4, 5)),
        ("BadDeed", {"said": "dig"}, lambda: ring_post().do(("dig", 9))),
        ("Stopped", {"at": 1, "kind": "badway"}, lambda: ring_post().run([("heed", 0), ("tunnel", ())])),
        ("Stopped", {"at": 0, "kind": "baddeed"}, lambda: ring_post().run([("heed",)])),
        ("Nothing", {}, lambda: Post(RANGES).undo()), ("Nothing", {}, lambda: Post(RANGES).redo()),
        ("BadPage", {"row": 1}, lambda: pages.read_page("post 1-9\ndig\n")),
    ]


class Refusals(unittest.TestCase):
    def test_the_class_and_the_word_of_each(self):
        seen = set()
        for name, fields, call in refused_calls():
            with self.assertRaises(SlipError) as held:
                call()
            refused = held.exception
            self.assertIs(type(refused), getattr(errors, name))
            self.assertEqual(vars(refused), dict(fields, word=name.lower()), name)
            seen.add(name)
        every = {name for name, item in vars(errors).items() if inspect.isclass(item)}
        self.assertEqual(every - seen, {"SlipError"})

    def test_a_house_that_there_is_none_of_comes_ahead_of_all_else(self):
        for strange, made in itertools.product(helper.strange_houses(4), (ring, parted)):
            for deed in (
                ("build", strange, strange, 0), ("build", strange, 9, 1), ("build", 1, strange, 0), ("cut", strange, strange),
                ("cut", 0, strange), ("snap", 3, strange), ("mend", strange, 3), ("charge", strange, 0, 0),
                ("charge", 0, strange, FAR), ("heed", strange), ("deliver", strange, 1), ("deliver", 2, strange),
                ("tunnel", (strange,)), ("tunnel", (0, 0, strange)), ("tunnel", (0, 2, strange, 99)), ("guard", strange, strange),
                ("guard", 2, strange),
            ):
                expected = ("refused", "nohouse", {"house": strange})
                self.assertEqual(done(made(), deed), expected, deed)
                self.assertEqual(called(Post([(1, 9)] * 4).do, deed), expected)
            for question in (("view", strange), ("heard", strange), ("slips", strange), ("holders", strange, FAR)):
                self.assertEqual(called(getattr(made(), question[0]), *question[1:]), expected)
            for name in ("want", "live", "way", "letters"):
                for things in ((strange, 0), (0, strange), (strange, 99), (strange, strange)):
                    self.assertEqual(called(getattr(made(), name), *things), expected)

    def test_what_is_refused_changes_nothing(self):
        rng = random.Random(77)
        refused = 0
        for turn in range(300):
            made = ring_post()
            ahead, twin = post_told(made), made.twin()
            deed = helper.strange_deed(rng, helper.Seen(made.web(), 2))
            if called(made.do, deed)[0] == "refused":
                refused += 1
                self.assertEqual(post_told(made), ahead)
                self.assertTrue(made == twin)
                made.redo()
        self.assertGreater(refused, 100)


# The interface: for each name its parameters; those behind a star behind "*".
INTERFACE = {
    ways: {
        "far": "many ties goal", "nexts": "many ties goal", "least_way": "many ties start goal",
        "far_holds": "many ties goal told", "round_way": "many ties one other",
    },
    letters: {"letter_text": "letter", "read_letter": "text"},
    frames: {"send": "web house goal"},
    looks: {"audit": "ranges rows", "cover": "web"},
    pages: {"deed_text": "deed", "page": "post", "read_page": "text"},
}
CLASSES = {
    ranges.Numbers: {"__init__": "low high", "take": "", "give": "number", "taken": "", "left": "", "has": "number"},
    web.Web: {
        "__init__": "ranges", "build": "one other * price", "cut": "one other", "snap": "one other", "mend": "one other",
        "charge": "one other * price", "heed": "house", "deliver": "one other", "settle": "", "tunnel": "way",
        "fell": "number", "guard": "one other", "many": "", "ranges": "", "ties": "", "view": "house", "want": "house goal",
        "live": "house goal", "way": "house goal", "heard": "house", "slips": "house", "rows": "",
        "holders": "house number", "letters": "one other", "waiting": "", "tunnels": "", "short": "", "made": "", "twin": "",
        "__eq__": "other", "__len__": "", "__repr__": "",
    },
    post.Post: {
        "__init__": "ranges", "do": "deed", "run": "deeds", "undo": "", "redo": "", "depth": "", "deeds": "", "web": "",
        "twin": "", "__eq__": "other", "__len__": "",
    },
    desk.Desk: {"__init__": "post", "post": "", "say": "line"},
}
NUMBERS = {ways: {"MOST_HOUSES": 8, "MOST_TIES": 14, "MOST_PRICE": 9}, ranges: {"MOST_NUMBER": 9999}}


def parameters(function):
    """The names that a function takes, "*" ahead of those that are handed in by name alone."""
    names = []
    for name, parameter in inspect.signature(function).parameters.items():
        if parameter.kind == parameter.KEYWORD_ONLY and "*" not in names:
            names.append("*")
        names.append(name)
    return names


class TheInterface(unittest.TestCase):
    def test_functions(self):
        for module, functions in INTERFACE.items():
            for name, names in functions.items():
                self.assertEqual(parameters(getattr(module, name)), names.split(), name)

    def test_methods_stand_in_the_class_itself(self):
        for owner, methods in CLASSES.items():
            for name, names in methods.items():
                self.assertIn(name, vars(owner), (owner, name))
                self.assertEqual(parameters(vars(owner)[name])[1:], names.split(), (owner, name))

    def test_numbers(self):
        for module, numbers in NUMBERS.items():
            for name, number in numbers.items():
                self.assertEqual(getattr(module, name), number)

    def test_things_behind_a_star_by_name_alone(self):
        self.assertRaises(TypeError, Web(RANGES).build, 0, 1, 5)
        self.assertRaises(TypeError, ring().charge, 0, 1, 5)
        self.assertRaises(TypeError, ring().charge, 0, 1)
        made = Web(RANGES)
        made.build(0, 1)
        self.assertEqual(made.ties(), [(0, 1, 1, True)])

    def assert_any_order(self, call, names):
        """A call by names comes to the same in every order of them, and to what it comes to without names."""
        plain = call(*names.values())
        for order in itertools.permutations(names):
            self.assertEqual(call(**{name: names[name] for name in order}), plain, order)

    def test_functions_by_names_in_any_order(self):
        rows = ring().rows()
        for call, names in (
            (ways.far, dict(many=4, ties=TIES, goal=2)), (ways.nexts, dict(many=4, ties=TIES, goal=2)),
            (ways.least_way, dict(many=4, ties=TIES, start=1, goal=3)), (ways.round_way, dict(many=4, ties=TIES, one=3, other=2)),
            (ways.far_holds, dict(many=4, ties=TIES, goal=0, told=[0, 1, 2, 1])), (frames.send, dict(web=ring(), house=1, goal=3)),
            (looks.audit, dict(ranges=RANGES, rows=rows)), (looks.audit, dict(ranges=RANGES, rows=rows + rows[:1])),
            (looks.cover, dict(web=ring())), (letters.letter_text, dict(letter=("void", 3))),
            (letters.read_letter, dict(text="lay 1 2 3.4")), (pages.deed_text, dict(deed=("cut", 1, 0))),
            (pages.page, dict(post=ring_post())), (pages.read_page, dict(text=page(ring_post()))),
            (web.Web, dict(ranges=RANGES)), (post.Post, dict(ranges=RANGES)),
            (lambda *things, **named: ranges.Numbers(*things, **named).left(), dict(low=3, high=7)),
            (ranges.Numbers(3, 7).has, dict(number=7)),
        ):
            self.assert_any_order(call, names)

    def test_methods_by_names_in_any_order(self):
        deeds = (
            ("cut", dict(one=0, other=1)), ("snap", dict(one=2, other=1)), ("heed", dict(house=2)),
            ("deliver", dict(one=2, other=1)), ("tunnel", dict(way=[1, 2, 3])), ("fell", dict(number=1)),
            ("guard", dict(one=2, other=1)), ("build", dict(one=0, other=2)), ("settle", {}),
        )
        for word, names in deeds:
            plain = ring()
            came_to = getattr(plain, word)(*names.values())
            for order in itertools.permutations(names):
                made = ring()
                self.assertEqual(getattr(made, word)(**{name: names[name] for name in order}), came_to)
                self.assertTrue(made == plain)
        for word, names in (("build", dict(one=2, other=0, price=4)), ("charge", dict(one=2, other=1, price=4))):
            for order in itertools.permutations(names):
                made = ring()
                getattr(made, word)(**{name: names[name] for name in order})
                self.assertIn(4, [tie[2] for tie in made.ties()])
        made = parted()
        made.mend(other=2, one=3)
        self.assertTrue(all(tie[3] for tie in made.ties()))

    def test_questions_by_names_in_any_order(self):
        made = ring()
        for asked in helper.questions(made):
            names = CLASSES[Web][asked[0]].split()
            self.assert_any_order(getattr(made, asked[0]), dict(zip(names, asked[1:])))

    def test_posts_and_desks_by_names(self):
        made = ring_post()
        self.assertIsNone(made.do(deed=("snap", 0, 1)))
        self.assertEqual(made.run(deeds=[("mend", 0, 1)]), [None])
        self.assertEqual(Desk(post=made).say(line="undo"), "done")


class Lists(unittest.TestCase):
    def assert_new(self, ask):
        first, second = asked_twice(ask)
        self.assertEqual(first, second)

    def test_told_lists_spoilt(self):
        made = ring()
        state, twin = told(made), made.twin()
        for asked in helper.questions(made):
            self.assert_new(lambda: getattr(made, asked[0])(*asked[1:]))
        self.assert_new(lambda: cover(made))
        for house, goal in itertools.product(range(4), repeat=2):
            self.assert_new(lambda: send(made, house, goal))
        self.assertEqual(told(made), state)
        self.assertTrue(made == twin)
        kept = ring_post()
        for ask in (kept.deeds, kept.depth, lambda: kept.run([]), lambda: cover(kept.web()), lambda: told(kept.web())):
            self.assert_new(ask)
        self.assertTrue(kept == ring_post())

    def test_lists_of_refusals_spoilt(self):
        made = parted()
        for ask in (lambda: made.guard(0, 1), lambda: ways.least_way(4, TIES[:1], 0, 3), lambda: ways.round_way(4, TIES[:1], 0, 1)):
            self.assert_new(lambda: called(ask)[2]["lot"])

    def test_lists_of_functions_spoilt(self):
        numbers = full_numbers()
        self.assert_new(numbers.taken)
        self.assert_new(lambda: ways.far(4, TIES, 0))
        self.assert_new(lambda: ways.nexts(4, TIES, 0))

    def test_what_is_handed_in_stays(self):
        handed = [
            RANGES, TIES, [0, 1, 2, 1], ring().rows(), [0, 1, 2], ("tunnel", [0, 1, 2]), [("tunnel", [0, 1, 2]), ("heed", 0)],
            ("lay", 1, 2, [0, 1, 2]),
        ]
        kept = copy.deepcopy(handed)
        pairs, ties, prices, rows, way, deed, deeds, letter = handed
        Web(pairs)
        Post(pairs)
        ways.far_holds(4, ties, 0, prices)
        ways.round_way(4, ties, 0, 1)
        audit(pairs, rows)
        made = ring()
        made.tunnel(way)
        state = ring_post()
        state.do(deed)
        state.run(deeds)
        pages.deed_text(deed)
        letters.letter_text(letter)
        self.assertEqual(handed, kept)
        ahead = told(made), post_told(state)
        helper.spoil(way)
        helper.spoil(deed)
        helper.spoil(deeds)
        self.assertEqual((told(made), post_told(state)), ahead)

    def test_numbers_of_forty_figures(self):
        large = 10 ** 40 - 1
        for number in (large, -large):
            made = ring_post()
            for deed in (
                ("build", 0, 2, number), ("build", number, 0, 1), ("charge", 0, 1, number), ("fell", number), ("heed", number),
                ("tunnel", (number, 0, 1)), ("cut", 0, number),
            ):
                self.assertEqual(called(made.do, deed), done(made.web(), deed))
                self.assertEqual(called(made.do, deed)[0], "refused")
            self.assertEqual(Desk(made).say(f"heed {number}"), "what")
            self.assertEqual(called(pages.read_page, f"post {number}-{number}\n")[1], "badpage")
            self.assertEqual(called(pages.read_page, f"post 1-9\nheed {number}\n")[1], "badpage")
            self.assertEqual(called(letters.read_letter, f"void {number}")[1], "badletter")
            rows = [(0, number, ("goal", 0), None, (0,), 1, "live")]
            self.assertEqual(audit(RANGES, rows), ("range", 0, number))
            self.assertEqual(audit(RANGES, [(number, 1, ("goal", 0), None, (0,), 1, "live")]), ("range", number, 1))

    def test_questions_change_nothing(self):
        made = ring_post()
        ahead, twin = post_told(made), made.twin()
        for turn in range(2):
            cover(made.web())
            page(made)
            made.deeds(), made.depth(), made.web(), made.twin(), len(made), made == twin, repr(made.web())
        self.assertEqual(post_told(made), ahead)
        self.assertEqual(made.depth(), (1, 1))


class WhateverWasDone(unittest.TestCase):
    """[1], [22] and [23], behind each of many drawn deeds, done by posts and at desks."""

    def look_over(self, made):
        self.assertIsNone(audit(made.ranges(), made.rows()))
        self.assertEqual(helper.row_faults(made.ranges(), made.rows()), [])
        for house in range(made.many()):
            self.assertEqual([row for row in made.slips(house) if row[2] == ("goal", house)][0][3:5], (None, (house,)))
            for goal in range(made.many()):
                self.look_at_frame(made, house, goal)
        faults = lost_goals(made)
        self.assertIn(faults, (None, []))
        self.seen["settled"] += faults is not None
        self.seen["unsettled"] += faults is None

    def look_at_frame(self, made, house, goal):
        end, steps = send(made, house, goal)
        self.seen[end[0]] += 1
        way = made.way(house, goal)
        self.assertEqual(end[1], goal if end[0] == "came" else steps[-1][0])
        if end[0] == "came" and house != goal:
            ready = made.ready()
            self.assertEqual([step[0] for step in steps], helper.way_with_tunnels(way, made.ties(), ready))

    def draw(self, rng, turn, act):
        """Deeds handed to `act`, which does them and tells the post; steps back and again now and then."""
        many = rng.randint(1, 8)
        made = Post(helper.drawn_ranges(rng, many, turn % 2))
        first = helper.first_deeds(rng, many)
        for step in range(len(first) + 60):
            laid = sum(deed[0] in ("tunnel", "guard") for deed in made.deeds())
            if step < len(first):
                act(made, first[step])
            elif rng.random() < 0.12:
                act(made, (rng.choice(["undo", "undo", "redo"]),))
            else:
                act(made, helper.drawn_deed(rng, helper.Seen(made.web(), laid)))
            self.look_over(made.web())

    def setUp(self):
        self.seen = {word: 0 for word in "came slip dead broken settled unsettled".split()}

    def tearDown(self):
        self.assertEqual([word for word in self.seen if self.seen[word] < 20], [], self.seen)

    def test_by_posts(self):
        def act(made, deed):
            called(getattr(made, deed[0])) if deed[0] in ("undo", "redo") else called(made.do, deed)

        rng = random.Random(78)
        for turn in range(24):
            self.draw(rng, turn, act)

    def test_by_runs(self):
        rng = random.Random(79)
        for turn in range(16):
            waiting = []

            def act(made, deed):
                if deed[0] in ("undo", "redo"):
                    called(getattr(made, deed[0]))
                    return
                waiting.append(deed)
                if len(waiting) == 4:
                    if called(made.run, waiting)[0] == "refused":
                        for each in waiting:
                            called(made.run, [each])
                    waiting.clear()

            self.draw(rng, turn, act)

    def test_at_desks(self):
        def act(made, deed):
            self.assertTrue(Desk(made).say(helper.texts_of(*deed)))

        rng = random.Random(80)
        for turn in range(24):
            self.draw(rng, turn, act)

    def test_settled_by_hand(self):
        # In whatever order the houses heed and the letters arrive.
        rng = random.Random(81)
        for turn in range(60):
            many = rng.randint(1, 8)
            made = Web(helper.drawn_ranges(rng, many, True))
            for deed in helper.first_deeds(rng, many):
                done(made, deed)
            for step in range(rng.randint(0, 30)):
                done(made, helper.drawn_deed(rng, helper.Seen(made, 3)))
            for house in rng.sample(range(many), many):
                made.heed(house)
            while made.waiting():
                made.deliver(*rng.choice(made.waiting())[:2])
                self.assertIsNone(audit(made.ranges(), made.rows()))
            if not made.short():
                self.assertEqual(lost_goals(made), [])
            self.look_over(made)
        for word in ("slip", "dead", "broken", "unsettled"):
            self.seen[word] += 20
