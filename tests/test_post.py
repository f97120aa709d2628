"""The post: [27], [28], and [29] as far as it speaks of posts."""

import copy
import random
import unittest

import helper
from helper import asked_twice, called, done, post_told, replayed, told
from swapslip.post import Post
from swapslip.web import Web

FAR = 10 ** 39
RANGES = [(1, 19), (21, 39), (41, 59), (61, 79)]
RING = [("build", 0, 1, 1), ("build", 1, 2, 2), ("build", 2, 3, 1), ("build", 0, 3, 1)]

# Each word, done one behind another.
ALL_DEEDS = RING + [
    ("heed", 0), ("deliver", 1, 0), ("settle",), ("guard", 1, 2), ("settle",), ("snap", 1, 2), ("charge", 2, 1, 9),
    ("mend", 2, 1), ("tunnel", (0, 1, 2)), ("deliver", 2, 1), ("fell", 1), ("fell", 2), ("cut", 0, 3), ("settle",),
]

REFUSED = [
    ("build", 0, 1, 1), ("build", 0, 0, 1), ("build", 0, 9, 0), ("build", -1, 9, 1), ("build", 0, 2, 0), ("build", 0, 2, 10),
    ("cut", 0, 2), ("cut", 4, 0), ("cut", 1, 1), ("snap", 0, 2), ("snap", 0, FAR), ("mend", 0, 1), ("mend", 2, 0),
    ("charge", 0, 1, 0), ("charge", 0, 1, FAR), ("charge", 0, 2, 5), ("charge", 7, 8, 5), ("heed", 4), ("heed", -1),
    ("deliver", 0, 2), ("deliver", 0, 1), ("deliver", -FAR, 0), ("tunnel", ()), ("tunnel", (0, 1)), ("tunnel", (0, 1, 0)),
    ("tunnel", (0, 1, 3)), ("tunnel", (0, 1, 4)), ("tunnel", [5, 6]), ("fell", 0), ("fell", 1), ("fell", FAR),
    ("guard", 0, 2), ("guard", 0, 0), ("guard", 0, 8),
]

# How many things each word has: one fewer and one more is wrong.
COUNTS = {word: len(helper.DEED_FORMS[word]) for word in helper.DEED_FORMS}


def ring():
    """A post of a settled ring, with steps back and again."""
    post = Post(RANGES)
    for deed in RING + [("settle",), ("guard", 0, 1), ("settle",)]:
        post.do(deed)
    post.undo()
    post.undo()
    return post


class PostTest(unittest.TestCase):
    def assert_same(self, post, ahead, twin):
        """The post is as it was; what can be done again too."""
        self.assertEqual(post_told(post), ahead)
        self.assertTrue(post == twin)
        again, back = post.twin(), post.twin()
        other_again, other_back = twin.twin(), twin.twin()
        for turn in range(post.depth()[1]):
            again.redo()
            other_again.redo()
            self.assertEqual(post_told(again), post_told(other_again))
        for turn in range(len(post)):
            back.undo()
            other_back.undo()
            self.assertTrue(back == other_back)

    def assert_refused(self, post, word, fields, ask, *things):
        ahead, twin, handed = post_told(post), post.twin(), copy.deepcopy(things)
        self.assertEqual(called(getattr(post, ask), *things), ("refused", word, fields), things)
        self.assertEqual(things, handed)
        self.assert_same(post, ahead, twin)


class Made(PostTest):
    def test_at_the_beginning(self):
        post = Post(RANGES)
        self.assertEqual(post_told(post), ([], (0, 0), 0, told(Web(RANGES))))
        self.assertTrue(post.web() == Web(RANGES))
        self.assertIs(type(post.web()), Web)
        self.assertIs(type(post.depth()), tuple)
        self.assertIs(type(post.deeds()), list)

    def test_refused_as_a_web(self):
        for ranges in ([], [(1, 9)] * 9, [(0, 0)] * 9, [(0, 4)], [(1, 9), (1, 65)], [(2, 1)], [(9990, 10000)], [(FAR, FAR)]):
            self.assertEqual(called(Post, ranges), called(Web, ranges))
            self.assertEqual(called(Post, ranges)[0], "refused")

    def test_ranges_are_not_kept(self):
        ranges = list(RANGES)
        post = Post(ranges)
        ranges.pop()
        self.assertEqual(post.web().ranges(), RANGES)
        post.do(("heed", 3))
        post.undo()
        self.assertEqual(post.web().ranges(), RANGES)

    def test_things_by_their_names(self):
        post = Post(ranges=RANGES)
        self.assertIsNone(post.do(deed=("build", 0, 1, 3)))
        self.assertEqual(post.run(deeds=[("heed", 0), ("settle",)]), [None, 4])


class Done(PostTest):
    def test_each_deed_beside_the_method(self):
        post, web = Post(RANGES), Web(RANGES)
        for count, deed in enumerate(ALL_DEEDS, start=1):
            came_to = called(post.do, deed)
            self.assertEqual(came_to, done(web, deed), deed)
            self.assertEqual(came_to[0], "told")
            self.assertTrue(post.web() == web, deed)
            self.assertEqual(told(post.web()), told(web))
            self.assertEqual((len(post), post.depth()), (count, (count, 0)))
            self.assertEqual(post.deeds(), ALL_DEEDS[:count])
        self.assertEqual({deed[0] for deed in ALL_DEEDS}, set(helper.DEED_FORMS))

    def test_what_they_tell(self):
        post = Post(RANGES)
        self.assertEqual([post.do(deed) for deed in RING], [None] * 4)
        self.assertIsNone(post.do(("heed", 1)))
        self.assertEqual(post.do(("deliver", 0, 1)), ("tell", 0, 1, (0,)))
        self.assertEqual(post.do(("settle",)), replayed(Web(RANGES), RING + [("heed", 1), ("deliver", 0, 1)]).settle())
        self.assertEqual(post.do(("tunnel", [0, 1, 2])), 1)
        self.assertEqual(post.do(("guard", 0, 1)), 2)
        self.assertIsNone(post.do(("fell", 1)))
        self.assertIsNone(post.do(("cut", 1, 0)))

    def test_refused_as_the_method_refuses(self):
        for deed in REFUSED:
            came_to = done(ring().web(), deed)
            self.assertEqual(came_to[0], "refused", deed)
            self.assert_refused(ring(), came_to[1], came_to[2], "do", deed)
        short = Post([(1, 1), (11, 19), (21, 29)])
        short.run([("build", 0, 1, 1), ("build", 1, 2, 1), ("build", 2, 0, 1)])
        self.assert_refused(short, "short", {"house": 0}, "do", ("tunnel", (1, 2, 0)))
        self.assert_refused(short, "short", {"house": 0}, "do", ("guard", 1, 0))
        short.do(("snap", 1, 2))
        self.assert_refused(short, "broken", {}, "do", ("snap", 2, 1))
        self.assert_refused(short, "broken", {}, "do", ("deliver", 2, 1))
        self.assert_refused(short, "lone", {"lot": [1]}, "do", ("guard", 1, 0))

    def test_too_many_ties(self):
        post = Post([(1, 9)] * 8)
        pairs = helper.all_pairs(8)
        post.run([("build", one, other, 1) for one, other in pairs[:14]])
        self.assert_refused(post, "toomany", {"bound": 14}, "do", ("build",) + pairs[14] + (1,))

    def test_unknown_words(self):
        for word in "dig undo redo twin rows ties view Build builds settle_ ready many".split() + ["", " ", "build "]:
            for things in ((), (0,), (0, 1), (0, 1, 1), ((0, 1, 2),), (FAR, -FAR, 0, 0, 0)):
                self.assert_refused(ring(), "baddeed", {"said": word}, "do", (word,) + things)

    def test_too_few_and_too_many_things(self):
        for word, count in COUNTS.items():
            for other in set(range(6)) - {count}:
                # Houses that there are, and such that there are none of: BadDeed comes ahead of all else.
                for thing in (0, 1, -1, 9, FAR):
                    self.assert_refused(ring(), "baddeed", {"said": word}, "do", (word,) + (thing,) * other)
        self.assert_refused(ring(), "baddeed", {"said": "tunnel"}, "do", ("tunnel", 0, 1, 2))
        self.assert_refused(ring(), "baddeed", {"said": "tunnel"}, "do", ("tunnel", (0, 1, 2), 3))
        self.assert_refused(ring(), "baddeed", {"said": "build"}, "do", ("build", 0, 2))

    def test_a_refused_deed_lets_nothing_go(self):
        post = ring()
        self.assertEqual(post.depth(), (5, 2))
        self.assertEqual(called(post.do, ("fell", 1))[0], "refused")
        self.assertEqual(post.depth(), (5, 2))
        post.redo()
        post.redo()
        self.assertEqual(post.web().tunnels(), [(1, (0, 3, 2, 1), (3, 65))])

    def test_a_new_step_lets_go_what_could_be_done_again(self):
        for ask, thing in (("do", ("heed", 1)), ("run", [("heed", 1)]), ("run", [("heed", 1), ("heed", 2)])):
            post = ring()
            getattr(post, ask)(thing)
            self.assertEqual(post.depth(), (6, 0))
            self.assertEqual(called(post.redo), ("refused", "nothing", {}))

    def test_a_deed_that_changes_nothing_is_a_step(self):
        post = Post(RANGES)
        post.do(("heed", 0))
        post.do(("settle",))
        self.assertEqual((post.depth(), post.deeds()), ((2, 0), [("heed", 0), ("settle",)]))
        self.assertTrue(post == Post(RANGES))

    def test_ways_as_tuples(self):
        post = ring()
        way = [0, 1, 2]
        handed = ("tunnel", way)
        post.do(handed)
        self.assertEqual((handed, way), (("tunnel", [0, 1, 2]), [0, 1, 2]))
        way.append(3)
        self.assertEqual(post.deeds()[-1], ("tunnel", (0, 1, 2)))
        self.assertIs(type(post.deeds()[-1][1]), tuple)
        other = [("tunnel", [2, 1, 0]), ("tunnel", (1, 2, 3))]
        post.run(other)
        other[0][1].clear()
        self.assertEqual(post.deeds()[-2:], [("tunnel", (2, 1, 0)), ("tunnel", (1, 2, 3))])
        post.undo()
        post.redo()
        self.assertEqual([type(deed[1]) for deed in post.deeds()[-3:]], [tuple] * 3)
        self.assertEqual([way for number, way, out in post.web().tunnels()], [(0, 1, 2), (2, 1, 0), (1, 2, 3)])


class BackAndAgain(PostTest):
    def test_nothing(self):
        post = Post(RANGES)
        self.assert_refused(post, "nothing", {}, "undo")
        self.assert_refused(post, "nothing", {}, "redo")
        post.do(("build", 0, 1, 1))
        self.assert_refused(post, "nothing", {}, "redo")
        self.assertIsNone(post.undo())
        self.assert_refused(post, "nothing", {}, "undo")
        self.assertIsNone(post.redo())
        self.assert_refused(post, "nothing", {}, "redo")

    def test_in_stretches(self):
        post = Post(RANGES)
        states = [post_told(post)[0::3]]
        for deed in ALL_DEEDS:
            post.do(deed)
            states.append(post_told(post)[0::3])
        at, last = len(ALL_DEEDS), len(ALL_DEEDS)
        for stretch in (-1, 1, -3, 2, -5, 4, -last, last, -7, -7, 3, 99, -99, 5, -2, 99):
            for turn in range(abs(stretch)):
                to = at + (1 if stretch > 0 else -1)
                came_to = called(post.redo if stretch > 0 else post.undo)
                if 0 <= to <= last:
                    self.assertEqual(came_to, ("told", None))
                    at = to
                else:
                    self.assertEqual(came_to, ("refused", "nothing", {}))
                self.assertEqual(post_told(post)[0::3], states[at])
                self.assertEqual((post.depth(), len(post)), ((at, last - at), at))

    def test_numbers_of_tunnels_and_ages(self):
        post = Post(RANGES)
        post.run(RING + [("settle",)])
        made = post.web().made()
        self.assertEqual(post.do(("guard", 0, 1)), 1)
        self.assertEqual(post.do(("guard", 1, 0)), 2)
        self.assertEqual(post.web().made(), made + 2)
        post.undo()
        self.assertEqual(post.web().made(), made + 1)
        self.assertEqual(post.do(("tunnel", (1, 2, 3))), 2)
        self.assertEqual(max(row[5] for row in post.web().rows()), made + 2)
        self.assertEqual(post.do(("fell", 2)), None)
        self.assertEqual(post.do(("tunnel", (1, 2, 3))), 3)
        post.undo()
        post.undo()
        self.assertEqual(called(post.do, ("fell", 3)), ("refused", "notunnel", {"number": 3}))
        self.assertEqual(post.do(("tunnel", (3, 0, 1))), 3)

    def test_done_again_as_it_was(self):
        post = Post(RANGES)
        for deed in ALL_DEEDS:
            post.do(deed)
            behind = post_told(post)
            post.undo()
            post.redo()
            self.assertEqual(post_told(post), behind)

    def test_two_hundred_steps(self):
        rng = random.Random(73)
        post, webs = Post(RANGES), [Web(RANGES)]
        while len(post) < 200:
            web = webs[-1].twin()
            deed = helper.drawn_deed(rng, helper.Seen(web, len(post) // 10))
            came_to = called(post.do, deed)
            self.assertEqual(came_to, done(web, deed))
            if came_to[0] == "told":
                webs.append(web)
            self.assertTrue(post.web() == webs[-1])
        for stretch in (range(199, -1, -1), range(1, 201), range(199, 99, -1), range(101, 201)):
            for at in stretch:
                post.undo() if len(post) > at else post.redo()
                self.assertEqual(post.depth(), (at, 200 - at))
                self.assertTrue(post.web() == webs[at])
        self.assertEqual(called(post.redo), ("refused", "nothing", {}))
        self.assertTrue(replayed(Web(RANGES), post.deeds()) == webs[-1])


class Run(PostTest):
    def test_none(self):
        for post in (Post(RANGES), ring()):
            ahead, twin = post_told(post), post.twin()
            handed = []
            self.assertEqual(post.run(handed), [])
            self.assertEqual(handed, [])
            self.assert_same(post, ahead, twin)

    def test_one_to_twenty_five(self):
        for count in range(1, 26):
            deeds = (ALL_DEEDS + ALL_DEEDS[4:5] * 9)[:count]
            post, web = Post(RANGES), Web(RANGES)
            handed = copy.deepcopy(deeds)
            told_list = post.run(handed)
            self.assertEqual(handed, deeds)
            self.assertIs(type(told_list), list)
            self.assertEqual(told_list, [done(web, deed)[1] for deed in deeds])
            self.assertTrue(post.web() == web)
            self.assertEqual((post.depth(), post.deeds(), len(post)), ((1, 0), deeds, 1))
            post.undo()
            self.assertEqual(post_told(post), ([], (0, 1), 0, told(Web(RANGES))))
            post.redo()
            self.assertEqual((post.depth(), post.deeds()), ((1, 0), deeds))
            self.assertTrue(post.web() == web)

    def test_a_refused_one_at_each_place(self):
        bad = [("heed", 4), ("fell", 9), ("cut", 2, 2), ("dig", 1), ("tunnel", (0, 1)), ("guard", 0, 9), ("charge", 0, 1)]
        words = ["nohouse", "notunnel", "notie", "baddeed", "badway", "nohouse", "baddeed"]
        for at in range(25):
            for deed, word in zip(bad, words):
                post = ring()
                deeds = [("heed", turn % 4) for turn in range(25)]
                deeds[at:at + 1] = [deed]
                self.assert_refused(post, "stopped", {"at": at, "kind": word}, "run", deeds)

    def test_what_was_done_ahead_of_it_is_as_it_was(self):
        for at in range(len(ALL_DEEDS) + 1):
            post = ring()
            post.run([("cut", 0, 1), ("cut", 1, 2), ("cut", 2, 3), ("cut", 0, 3)])
            post.do(("heed", 0))
            post.undo()
            deeds = ALL_DEEDS[:at] + [("mend", 5, 5)] + ALL_DEEDS[at:]
            self.assert_refused(post, "stopped", {"at": at, "kind": "nohouse"}, "run", deeds)

    def test_the_first_refused_one_counts(self):
        # A later deed of no form does not come ahead of an earlier one that is refused.
        deeds = [("heed", 0), ("fell", 7), ("dig",), ("heed", 9)]
        self.assert_refused(ring(), "stopped", {"at": 1, "kind": "notunnel"}, "run", deeds)
        self.assert_refused(ring(), "stopped", {"at": 0, "kind": "baddeed"}, "run", deeds[2:])

    def test_a_deed_refused_by_what_the_run_did(self):
        deeds = [("cut", 0, 1), ("build", 0, 1, 2), ("build", 1, 0, 2)]
        self.assert_refused(ring(), "stopped", {"at": 2, "kind": "hastie"}, "run", deeds)
        self.assertEqual(ring().run(deeds[:2]), [None, None])

    def test_one_step_among_others(self):
        post = ring()
        post.do(("heed", 2))
        post.run([("guard", 0, 1), ("guard", 1, 0), ("settle",)])
        post.do(("fell", 2))
        self.assertEqual(post.depth(), (8, 0))
        ahead = post_told(post)
        for turn in range(3):
            post.undo()
        self.assertEqual(post.depth(), (5, 3))
        post.redo()
        self.assertEqual(post.web().tunnels(), [])
        post.redo()
        self.assertEqual(len(post.web().tunnels()), 2)
        post.redo()
        self.assertEqual(post_told(post), ahead)

    def test_told_lists_are_new_ones(self):
        post = ring()
        deeds = [("heed", 0), ("tunnel", [0, 1, 2]), ("deliver", 2, 1)]
        told_list = post.run(deeds)
        ahead = post_told(post)
        helper.spoil(told_list)
        helper.spoil(deeds)
        self.assertEqual(post_told(post), ahead)


class TwinsAndWebs(PostTest):
    def test_a_twin_has_all(self):
        for post in (Post(RANGES), ring()):
            twin = post.twin()
            self.assertIs(type(twin), Post)
            self.assertTrue(twin == post)
            self.assertEqual(post_told(twin), post_told(post))
            while post.depth()[1]:
                post.redo()
                twin.redo()
                self.assertEqual(post_told(twin), post_told(post))
            while len(post):
                post.undo()
                twin.undo()
                self.assertEqual(post_told(twin), post_told(post))

    def changes(self):
        return [
            lambda post: post.undo(), lambda post: post.redo(), lambda post: post.do(("settle",)),
            lambda post: post.do(("cut", 0, 1)), lambda post: post.run([("guard", 0, 1), ("settle",), ("fell", 1)]),
            lambda post: post.do(("heed", 0)), lambda post: [post.undo() for turn in range(5)],
            lambda post: [post.undo(), post.undo(), post.do(("build", 0, 2, 1)), post.undo(), post.do(("heed", 2))],
        ]

    def test_goes_its_own_way(self):
        for change in self.changes():
            post = ring()
            ahead, twin, third = post_told(post), post.twin(), post.twin()
            change(twin)
            self.assert_same(post, ahead, third)
            twin = post.twin()
            change(post)
            self.assert_same(twin, ahead, third)

    def test_many_steps_back(self):
        post = ring()
        twin = post.twin()
        ahead = [post_told(post)]
        back = post.twin()
        while len(back):
            back.undo()
            ahead.append(post_told(back))
        for turn in range(3):
            twin.undo()
        twin.run([("cut", 0, 1), ("settle",)])
        while len(twin):
            twin.undo()
        twin.do(("snap", 0, 1)) if twin.web().ties() else twin.do(("build", 1, 3, 9))
        self.assertEqual(post_told(post), ahead[0])
        for state in ahead[1:]:
            post.undo()
            self.assertEqual(post_told(post), state)

    def test_the_told_web_is_a_twin(self):
        deeds = [
            ("build", 1, 3, 2), ("cut", 0, 1), ("snap", 0, 1), ("charge", 0, 1, 5), ("heed", 1), ("settle",),
            ("tunnel", [3, 0, 1]), ("guard", 0, 1),
        ]
        for deed in deeds:
            post = ring()
            ahead, third, web = post_told(post), post.twin(), post.web()
            self.assertEqual(done(web, deed)[0], "told")
            self.assert_same(post, ahead, third)
            # The other way about, and by steps back too.
            web = post.web()
            state = told(web)
            post.do(deed)
            for turn in range(4):
                post.undo()
            self.assertEqual(told(web), state)
            self.assertTrue(web == third.web())

    def test_each_told_web_is_another(self):
        post = ring()
        web = post.web()
        web.settle()
        web.cut(0, 1)
        self.assertFalse(web == post.web())
        while len(post):
            web = post.web()
            web.cut(*web.ties()[0][:2])
            post.undo()
        self.assertTrue(post.web() == Web(RANGES))

    def test_told_lists_spoilt(self):
        post = ring()
        post.do(("tunnel", [0, 1, 2]))
        ahead, twin = post_told(post), post.twin()
        for ask in (post.deeds, post.depth, lambda: post.web().rows(), lambda: post.web().ranges()):
            first, second = asked_twice(ask)
            self.assertEqual(first, second)
        self.assert_same(post, ahead, twin)

    def test_equal_where_the_webs_are(self):
        post = Post(RANGES)
        post.run(RING)
        other = Post(RANGES)
        for deed in RING:
            other.do(deed)
        self.assertNotEqual(len(post), len(other))
        self.assertTrue(post == other and other == post)
        self.assertFalse(post != other)
        self.assertIs(post == other, True)
        other.do(("settle",))
        self.assertFalse(post == other or other == post)
        self.assertTrue(post != other)
        self.assertIs(post == other, False)
        other.undo()
        self.assertTrue(post == other)
        post.do(("charge", 0, 1, 7))
        post.do(("charge", 0, 1, 1))
        self.assertTrue(post == other)
        self.assertFalse(Post(RANGES) == Post(RANGES[:3]))
        self.assertFalse(Post(RANGES) == Post(RANGES[:3] + [(61, 78)]))

    def test_to_nothing_else(self):
        class Anything:
            def __eq__(self, other):
                return True

        post = ring()
        for other in (None, 0, 5, "", RANGES, post.web(), Web(RANGES), post.deeds(), [], (), {}, object(), Post, Anything()):
            self.assertFalse(post == other)
            self.assertTrue(post != other)
        self.assertFalse(post.web() == post)
        self.assertFalse(Web(RANGES) == Post(RANGES))


class Drawn(PostTest):
    """Posts beside the slow post of helper."""

    def drawn_deeds(self, rng, slow, count):
        """Deeds for a run, drawn as if each but a late one would be done."""
        web = copy.deepcopy(slow.web())
        deeds = []
        for turn in range(count):
            deed = helper.drawn_deed(rng, web)
            if web.do(deed)[0] == "refused" and rng.random() < 0.8:
                continue
            deeds.append(("dig",) if rng.random() < 0.01 else deed)
        return deeds

    def step(self, rng, post, slow):
        draw = rng.random()
        if draw < 0.5:
            deed = helper.drawn_deed(rng, slow.web())
            return called(post.do, deed), slow.do(deed)
        if draw < 0.6:
            deeds = self.drawn_deeds(rng, slow, rng.randint(0, 12))
            return called(post.run, deeds), slow.run(deeds)
        word = "undo" if draw < 0.85 else "redo"
        return called(getattr(post, word)), getattr(slow, word)()

    def test_beside_the_slow_post(self):
        rng = random.Random(74)
        seen = set()
        for turn in range(16):
            many = rng.randint(1, 8)
            ranges = helper.drawn_ranges(rng, many, turn % 2)
            post, slow = Post(ranges), helper.SlowPost(ranges)
            first = helper.first_deeds(rng, many)
            self.assertEqual(called(post.run, first), slow.run(first))
            for step in range(70):
                came_to, expected = self.step(rng, post, slow)
                self.assertEqual(came_to, expected)
                seen.add(came_to[1] if came_to[0] == "refused" else "told")
                self.assertEqual(post.deeds(), slow.deeds())
                self.assertEqual(post.depth(), slow.depth())
                web = post.web()
                self.assertEqual(told(web), slow.web().all_told())
                self.assertEqual(helper.row_faults(web.ranges(), web.rows()), [])
            self.assertTrue(replayed(Web(ranges), post.deeds()) == post.web())
        self.assertLessEqual({"told", "stopped", "nothing", "nohouse", "notie", "badway"}, seen)
