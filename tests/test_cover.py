"""How each tie can be passed by: [26]."""

import random
import unittest

import helper
from helper import asked_twice, cover_by_the_words, done, told
from swapslip.looks import cover
from swapslip.web import Web

RANGES = [(100 * at + 1, 100 * at + 60) for at in range(8)]
RING = [(0, 1), (1, 2), (2, 3), (0, 3)]


def web_of(pairs, many=4):
    web = Web(RANGES[:many])
    for one, other in pairs:
        web.build(one, other)
    return web


def ready_web():
    """A ring whose tie of 0 and 1 has been guarded from 0, twice, and from 1; all is settled."""
    web = web_of(RING)
    for one, other in ((0, 1), (1, 0), (0, 1)):
        web.guard(one, other)
    web.settle()
    return web


def numbers(web):
    """The tunnels that cover tells, by pairs."""
    return {(house, other): number for house, other, number, way, lot in cover(web) if number is not None}


class CoverTest(unittest.TestCase):
    def assert_cover(self, web, *rows):
        before, twin = told(web), web.twin()
        self.assertEqual(cover(web), list(rows))
        self.assertEqual(told(web), before)
        self.assertTrue(web == twin)


class TheRows(CoverTest):
    def test_no_ties(self):
        for many in (1, 2, 8):
            self.assert_cover(web_of([], many))

    def test_one_tie(self):
        self.assert_cover(web_of([(1, 0)], 2), (0, 1, None, None, [0]), (1, 0, None, None, [1]))
        self.assert_cover(web_of([(2, 0)], 4), (0, 2, None, None, [0]), (2, 0, None, None, [2]))

    def test_either_way_about_rising_by_pairs(self):
        self.assert_cover(
            web_of([(2, 1), (2, 0), (1, 0)], 3),
            (0, 1, None, (0, 2, 1), None), (0, 2, None, (0, 1, 2), None), (1, 0, None, (1, 2, 0), None),
            (1, 2, None, (1, 0, 2), None), (2, 0, None, (2, 1, 0), None), (2, 1, None, (2, 0, 1), None),
        )

    def test_the_lot_without_the_tie(self):
        self.assert_cover(
            web_of([(3, 1), (1, 0), (2, 4)], 5),
            (0, 1, None, None, [0]), (1, 0, None, None, [1, 3]), (1, 3, None, None, [0, 1]),
            (2, 4, None, None, [2]), (3, 1, None, None, [3]), (4, 2, None, None, [4]),
        )

    def test_prices_and_the_least_numbered(self):
        web = web_of([(0, 1), (0, 2), (1, 2), (0, 3), (1, 3)])
        self.assertEqual([row[3] for row in cover(web)][:2], [(0, 2, 1), (0, 1, 2)])
        web.charge(1, 2, price=2)
        self.assertEqual([row[3] for row in cover(web)][:2], [(0, 3, 1), (0, 1, 2)])
        web.charge(1, 3, price=2)
        self.assertEqual([row[3] for row in cover(web)][:2], [(0, 2, 1), (0, 1, 2)])

    def test_kinds(self):
        for row in cover(ready_web()) + cover(web_of([(0, 1)])):
            self.assertIs(type(row), tuple)
            self.assertIn(type(row[3]), (tuple, type(None)))
            self.assertIn(type(row[4]), (list, type(None)))
            self.assertEqual((row[3] is None), (row[4] is not None))

    def test_things_by_their_names(self):
        self.assertEqual(cover(web=web_of([(1, 0)], 2)), [(0, 1, None, None, [0]), (1, 0, None, None, [1])])

    def test_houses_need_not_have_heeded(self):
        web = web_of(RING)
        rows = cover(web)
        web.settle()
        self.assertEqual(cover(web), rows)


class BrokenTies(CoverTest):
    def test_are_told_but_not_gone_along(self):
        web = web_of(RING)
        web.snap(2, 1)
        self.assert_cover(
            web,
            (0, 1, None, None, [0, 2, 3]), (0, 3, None, None, [0, 1]), (1, 0, None, None, [1]),
            (1, 2, None, (1, 0, 3, 2), None), (2, 1, None, (2, 3, 0, 1), None), (2, 3, None, None, [2]),
            (3, 0, None, None, [2, 3]), (3, 2, None, None, [0, 1, 3]),
        )

    def test_two_broken(self):
        web = web_of(RING)
        web.snap(2, 1)
        web.snap(0, 3)
        self.assert_cover(
            web,
            (0, 1, None, None, [0]), (0, 3, None, None, [0, 1]), (1, 0, None, None, [1]),
            (1, 2, None, None, [0, 1]), (2, 1, None, None, [2, 3]), (2, 3, None, None, [2]),
            (3, 0, None, None, [2, 3]), (3, 2, None, None, [3]),
        )

    def test_mended_and_cut(self):
        web = web_of(RING)
        whole = cover(web)
        web.snap(0, 1)
        self.assertNotEqual(cover(web), whole)
        web.mend(0, 1)
        self.assertEqual(cover(web), whole)
        web.cut(0, 1)
        self.assertEqual([row[:2] for row in cover(web)], [(0, 3), (1, 2), (2, 1), (2, 3), (3, 0), (3, 2)])
        self.assertEqual([row[4] for row in cover(web)], [[0], [1], [0, 2, 3], [1, 2], [1, 2, 3], [0, 3]])


class Tunnels(CoverTest):
    def test_none_ahead_of_being_ready(self):
        web = web_of(RING)
        web.settle()
        web.guard(0, 1)
        self.assertEqual(numbers(web), {})
        web.deliver(1, 2)
        web.deliver(2, 3)
        self.assertEqual(numbers(web), {})
        web.deliver(3, 0)
        self.assertEqual(numbers(web), {(0, 1): 1})

    def test_the_least_that_is_ready(self):
        self.assertEqual(numbers(ready_web()), {(0, 1): 1, (1, 0): 2})

    def test_a_later_one_that_is_ready_ahead_of_an_earlier_one(self):
        web = web_of(RING + [(0, 2)])
        web.settle()
        web.tunnel([0, 3, 2, 1])
        web.tunnel([0, 2, 1])
        web.deliver(1, 2)
        web.deliver(1, 2)
        for turn in range(len(web.letters(2, 0))):
            web.deliver(2, 0)
        self.assertEqual(numbers(web), {(0, 1): 2})
        web.settle()
        self.assertEqual(numbers(web), {(0, 1): 1})

    def test_felled_ones_while_they_are_ready(self):
        web = ready_web()
        web.fell(1)
        self.assertEqual(web.tunnels()[0][0], 2)
        self.assertEqual(numbers(web), {(0, 1): 1, (1, 0): 2})
        web.settle()
        self.assertEqual(numbers(web), {(0, 1): 3, (1, 0): 2})
        web.fell(2)
        web.fell(3)
        self.assertEqual(numbers(web), {(0, 1): 3, (1, 0): 2})
        web.settle()
        self.assertEqual(numbers(web), {})

    def test_whether_its_ties_are_whole_or_not(self):
        web = ready_web()
        for one, other in ((0, 3), (2, 3), (0, 1)):
            web.snap(one, other)
            self.assertEqual(numbers(web), {(0, 1): 1, (1, 0): 2})

    def test_along_any_way(self):
        # A tunnel from 0 to 2 covers their tie, whichever way it goes.
        web = web_of(RING + [(0, 2)])
        web.settle()
        web.tunnel([0, 3, 2])
        web.tunnel([0, 1, 2])
        web.tunnel([1, 2, 3, 0])
        web.settle()
        self.assertEqual(numbers(web), {(0, 2): 1, (1, 0): 3})

    def test_one_between_houses_that_are_not_joined_is_not_told(self):
        web = web_of(RING)
        web.settle()
        web.tunnel([0, 1, 2])
        web.settle()
        self.assertEqual(numbers(web), {})
        web.build(2, 0)
        self.assertEqual(numbers(web), {(0, 2): 1})

    def test_from_the_tenth_on(self):
        web = web_of(RING)
        web.settle()
        for turn in range(12):
            web.guard(0, 1)
        web.settle()
        for number in range(1, 13):
            self.assertEqual(numbers(web), {(0, 1): number})
            web.fell(number)
            web.settle()
        self.assertEqual(numbers(web), {})
        web.guard(1, 0)
        web.settle()
        self.assertEqual(numbers(web), {(1, 0): 13})


class Told(CoverTest):
    def test_lists_changed_by_the_caller(self):
        broken = web_of(RING)
        broken.snap(0, 1)
        for web in (web_of([(0, 1), (1, 2)]), ready_web(), broken):
            first, second = asked_twice(lambda: cover(web))
            self.assertEqual(first, second)
            self.assertEqual(second, cover(web.twin()))

    def test_beside_the_slow_web(self):
        rng = random.Random(72)
        seen = {"number": 0, "way": 0, "lot": 0, "broken": 0, "felled": 0}
        for turn in range(30):
            many = rng.randint(1, 8)
            ranges = helper.drawn_ranges(rng, many, turn % 3)
            web, slow = Web(ranges), helper.SlowWeb(ranges)
            first = helper.first_deeds(rng, many)
            for step in range(len(first) + 30):
                deed = first[step] if step < len(first) else helper.drawn_deed(rng, slow)
                self.assertEqual(done(web, deed), slow.do(deed))
                rows = cover(web)
                self.assertEqual(rows, cover_by_the_words(slow))
                seen["number"] += any(row[2] is not None for row in rows)
                seen["way"] += any(row[3] is not None for row in rows)
                seen["lot"] += any(row[4] is not None for row in rows)
                seen["broken"] += any(not tie[3] for tie in web.ties())
                standing = [number for number, way, out in web.tunnels()]
                seen["felled"] += any(row[2] is not None and row[2] not in standing for row in rows)
        self.assertEqual([what for what in seen if seen[what] < 10], [], seen)
