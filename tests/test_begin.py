"""A web at its beginning: [3], [7], [8], [9], [10]."""

import unittest

from helper import WebTest, strange_houses, told
from swapslip.errors import BadRange, TooMany
from swapslip.web import Web

FAR = 10 ** 39
GOOD = (1, 9)

# All bounds of a range, from both sides.
GOOD_RANGES = [(1, 1), (1, 64), (2, 65), (9936, 9999), (9999, 9999), (9998, 9999), (500, 563)]
BAD_RANGES = [
    (0, 0), (0, 5), (-1, 5), (-5, -5), (2, 1), (9, 8), (1, 0), (1, 65), (2, 66), (500, 564), (9935, 9999), (9937, 10000),
    (9999, 10000), (10000, 10000), (-FAR, 1), (1, FAR), (FAR, FAR), (-FAR, FAR), (FAR, -FAR),
]


class Made(WebTest):
    def assert_begins(self, ranges):
        web = Web(ranges)
        many = len(ranges)
        rows = [(at, ranges[at][0], ("goal", at), None, (at,), at + 1, "live") for at in range(many)]
        self.assertEqual(web.many(), many)
        self.assertEqual(web.ranges(), ranges)
        self.assertEqual(web.rows(), rows)
        self.assertEqual((len(web), web.made()), (many, many))
        self.assertEqual((web.ties(), web.waiting(), web.tunnels(), web.short()), ([], [], [], []))
        for house in range(many):
            self.assertEqual(web.slips(house), [rows[house]])
            self.assertEqual(web.holders(house, ranges[house][0]), [])
            self.assertEqual((web.view(house), web.heard(house)), ([], []))
            for goal in range(many):
                own = house == goal
                self.assertIsNone(web.want(house, goal))
                self.assertEqual(web.live(house, goal), ranges[house][0] if own else None)
                self.assertEqual(web.way(house, goal), (house,) if own else None)

    def test_one_to_eight_houses(self):
        for many in range(1, 9):
            self.assert_begins([(10 * at + 1, 10 * at + 9) for at in range(many)])
            self.assert_begins([GOOD] * many)

    def test_ranges_at_the_bounds(self):
        self.assert_begins(GOOD_RANGES)
        for one in GOOD_RANGES:
            self.assert_begins([one])
            self.assert_begins([GOOD, one, (9999, 9999)])

    def test_repr(self):
        self.assertEqual(repr(Web([GOOD])), "Web(1 houses, 0 ties, 1 slips)")
        web = Web([GOOD] * 3)
        self.assertEqual(repr(web), "Web(3 houses, 0 ties, 3 slips)")
        web.build(0, 1)
        self.assertEqual(repr(web), "Web(3 houses, 1 ties, 3 slips)")
        web.build(2, 1)
        web.settle()
        self.assertEqual(repr(web), "Web(3 houses, 2 ties, 9 slips)")

    def test_things_by_their_names(self):
        self.assertEqual(Web(ranges=[GOOD]).ranges(), [GOOD])


class Refused(unittest.TestCase):
    def test_none_and_too_many(self):
        for many in (0, 9, 10, 20):
            with self.assertRaises(TooMany) as held:
                Web([GOOD] * many)
            self.assertEqual((held.exception.bound, held.exception.word), (8, "toomany"))

    def test_too_many_comes_ahead_of_a_bad_range(self):
        for bad in BAD_RANGES:
            self.assertRaises(TooMany, Web, [bad] * 9)

    def test_a_bad_range_wherever_it_stands(self):
        for bad in BAD_RANGES:
            for many in (1, 2, 8):
                for at in range(many):
                    ranges = [GOOD] * many
                    ranges[at] = bad
                    with self.assertRaises(BadRange, msg=(bad, many, at)) as held:
                        Web(ranges)
                    self.assertEqual(held.exception.word, "badrange")


class HandedInAndTold(WebTest):
    def test_the_list_that_was_handed_in_is_changed_behind(self):
        ranges = [(1, 9), (11, 19)]
        web = Web(ranges)
        self.assertEqual(ranges, [(1, 9), (11, 19)])
        ranges[0] = (5, 5)
        ranges.append((7, 7))
        self.assertEqual(web.ranges(), [(1, 9), (11, 19)])
        self.assertEqual(web.many(), 2)
        web.build(0, 1)
        self.assertEqual(web.settle(), 4)
        self.assertEqual(web.live(0, 1), 2)

    def test_told_lists_that_are_changed_change_nothing(self):
        web = Web([(1, 9), (11, 19), (21, 29), (31, 39)])
        for one, other in ((0, 1), (1, 2), (2, 3), (0, 3)):
            web.build(one, other)
        web.settle()
        web.guard(0, 1)
        web.deliver(1, 2)
        web.charge(0, 1, price=5)
        web.heed(0)
        before, twin = told(web), web.twin()
        for asked, answer in told(web).items():
            if isinstance(answer, list):
                answer.append("strange")
                answer[0] = "strange"
                answer.reverse()
            # What is told in the list cannot be changed, nor can what is in that.
            for thing in answer if isinstance(answer, list) else []:
                self.assertIn(type(thing), (str, int, tuple), asked)
                for part in thing if isinstance(thing, tuple) else []:
                    self.assertNotIsInstance(part, list, asked)
        self.assertEqual(told(web), before)
        self.assertTrue(web == twin)

    def test_kinds_of_what_is_told(self):
        web = Web([(1, 9), (11, 19), (21, 29)])
        for one, other in ((0, 1), (1, 2), (0, 2)):
            web.build(one, other)
        web.settle()
        web.guard(0, 1)
        for asked, answer in told(web).items():
            if asked[0] in ("many", "made"):
                self.assertIs(type(answer), int)
            elif asked[0] in ("want", "live"):
                self.assertIn(type(answer), (int, type(None)))
            elif asked[0] == "way":
                self.assertIn(type(answer), (tuple, type(None)))
            else:
                self.assertIs(type(answer), list)
                inner = int if asked[0] in ("holders", "short") else tuple
                self.assertEqual({type(thing) for thing in answer} - {inner}, set(), asked)
        self.assertEqual([type(thing) for thing in web.ties()[0]], [int, int, int, bool])


class HousesThatThereAreNone(WebTest):
    def test_in_questions(self):
        web = Web([(1, 9), (11, 19), (21, 29)])
        web.build(0, 1)
        for strange in strange_houses(3):
            for question in ("view", "heard", "slips"):
                self.assert_asked_refused(web, "nohouse", {"house": strange}, question, strange)
            for question in ("want", "live", "way", "letters"):
                self.assert_asked_refused(web, "nohouse", {"house": strange}, question, strange, 0)
                self.assert_asked_refused(web, "nohouse", {"house": strange}, question, 0, strange)
                self.assert_asked_refused(web, "nohouse", {"house": strange}, question, strange, strange)
                self.assert_asked_refused(web, "nohouse", {"house": strange}, question, strange, -77)
            self.assert_asked_refused(web, "nohouse", {"house": strange}, "holders", strange, 1)
            self.assert_asked_refused(web, "nohouse", {"house": strange}, "holders", strange, FAR)

    def test_holders_of_a_number_that_is_not_taken(self):
        web = Web([(1, 9), (11, 19), (21, 29)])
        for number in (0, 2, 9, 10, 11, -1, FAR, -FAR):
            self.assert_asked_refused(web, "nottaken", {"number": number}, "holders", 0, number)

    def test_letters_where_there_is_no_tie(self):
        web = Web([(1, 9), (11, 19), (21, 29)])
        web.build(0, 1)
        for one, other in ((0, 2), (2, 0), (1, 2), (0, 0), (2, 2)):
            self.assert_asked_refused(web, "notie", {"one": one, "other": other}, "letters", one, other)
        web.snap(0, 1)
        self.assertEqual(web.letters(1, 0), [("tell", 1, 11, (1,))])

    def test_things_by_their_names(self):
        web = Web([(1, 9), (11, 19), (21, 29)])
        web.build(0, 1)
        self.assertEqual(web.view(house=0), [])
        self.assertIsNone(web.want(goal=1, house=0))
        self.assertEqual(web.live(goal=1, house=1), 11)
        self.assertEqual(web.way(goal=1, house=1), (1,))
        self.assertEqual(web.heard(house=0), [])
        self.assertEqual(len(web.slips(house=0)), 1)
        self.assertEqual(web.holders(number=1, house=0), [1])
        self.assertEqual(web.letters(other=1, one=0), [("tell", 0, 1, (0,))])
