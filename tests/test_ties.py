"""Ties: [3], [15] as far as nothing but the ties is changed by it."""

import itertools

import helper
from helper import WebTest, strange_houses
from swapslip.web import Web

FAR = 10 ** 39
RANGES = [(1, 9), (11, 19), (21, 29), (31, 39)]
BAD_PRICES = [0, 10, -1, 11, FAR, -FAR]


def eight():
    return Web([(1, 9)] * 8)


class Build(WebTest):
    def test_told_lesser_first_and_rising(self):
        web = Web(RANGES)
        for one, other, price in ((3, 1, 9), (2, 0, 1), (0, 1, 4), (3, 0, 2)):
            self.assert_done(web, "build", one, other, price)
        self.assertEqual(web.ties(), [(0, 1, 4, True), (0, 2, 1, True), (0, 3, 2, True), (1, 3, 9, True)])

    def test_the_price_is_one_if_none_is_handed_in(self):
        web = Web(RANGES)
        self.assertIsNone(web.build(other=0, one=1))
        self.assertIsNone(web.build(1, 2, price=1))
        self.assertEqual(web.ties(), [(0, 1, 1, True), (1, 2, 1, True)])

    def test_the_price_by_its_name_alone(self):
        web = Web(RANGES)
        self.assertRaises(TypeError, web.build, 0, 1, 5)
        web.build(0, 1)
        self.assertRaises(TypeError, web.charge, 0, 1, 5)
        self.assertRaises(TypeError, web.charge, 0, 1)
        self.assertEqual(web.ties(), [(0, 1, 1, True)])

    def test_each_good_price(self):
        for price in range(1, 10):
            web = Web(RANGES)
            self.assert_done(web, "build", 0, 1, price)
            self.assertEqual(web.ties(), [(0, 1, price, True)])

    def test_both_tell_their_slips(self):
        for one, other in ((1, 2), (2, 1)):
            web = Web(RANGES)
            web.build(one, other)
            self.assert_letters(web, 1, 2, ("tell", 1, 11, (1,)))
            self.assert_letters(web, 2, 1, ("tell", 2, 21, (2,)))
            self.assertEqual((web.holders(1, 11), web.holders(2, 21), web.holders(0, 1)), ([2], [1], []))
            self.assertEqual(web.waiting(), [(1, 2, 1), (2, 1, 1)])
            self.assertEqual((len(web), web.made()), (4, 4))

    def test_live_slips_by_rising_goals(self):
        # House 1 makes its slip for 2 first, under the lesser number.
        web = Web(RANGES)
        web.build(1, 2)
        web.build(0, 1)
        web.heed(1)
        web.deliver(2, 1)
        web.deliver(0, 1)
        web.build(3, 1)
        self.assertEqual([row[1:3] for row in web.slips(1)], [(11, ("goal", 1)), (12, ("goal", 2)), (13, ("goal", 0))])
        self.assert_letters(web, 1, 3, ("tell", 0, 13, (1, 0)), ("tell", 1, 11, (1,)), ("tell", 2, 12, (1, 2)))
        self.assert_letters(web, 3, 1, ("tell", 3, 31, (3,)))
        for number in (11, 12, 13):
            self.assertEqual(web.holders(1, number), [0, 2, 3])

    def test_no_house_ahead_of_all_else(self):
        web = Web(RANGES)
        web.build(0, 1)
        for strange in strange_houses(4):
            for price in (1, 0):
                self.assert_refused(web, "nohouse", {"house": strange}, "build", strange, 0, price)
                self.assert_refused(web, "nohouse", {"house": strange}, "build", 0, strange, price)
                self.assert_refused(web, "nohouse", {"house": strange}, "build", strange, strange, price)
                self.assert_refused(web, "nohouse", {"house": strange}, "build", strange, -99, price)

    def test_one_house_twice(self):
        web = Web(RANGES)
        for price in (1, 0, FAR):
            self.assert_refused(web, "notie", {"one": 2, "other": 2}, "build", 2, 2, price)

    def test_a_tie_that_is_there_already(self):
        web = Web(RANGES)
        web.build(0, 1, price=3)
        for price in (1, 3, 0, 10):
            self.assert_refused(web, "hastie", {}, "build", 0, 1, price)
            self.assert_refused(web, "hastie", {}, "build", 1, 0, price)
        web.snap(0, 1)
        self.assert_refused(web, "hastie", {}, "build", 0, 1, 1)

    def test_bad_prices(self):
        web = Web(RANGES)
        for price in BAD_PRICES:
            self.assert_refused(web, "badprice", {}, "build", 0, 1, price)

    def test_a_fifteenth_tie(self):
        web = eight()
        pairs = list(itertools.combinations(range(8), 2))
        for one, other in pairs[:14]:
            self.assert_done(web, "build", one, other, 1)
        self.assertEqual(len(web.ties()), 14)
        for one, other in pairs[14:]:
            self.assert_refused(web, "toomany", {"bound": 14}, "build", one, other, 1)
            self.assert_refused(web, "badprice", {}, "build", one, other, 10)
        self.assert_refused(web, "hastie", {}, "build", 0, 1, 1)
        self.assert_refused(web, "notie", {"one": 7, "other": 7}, "build", 7, 7, 1)
        self.assert_refused(web, "nohouse", {"house": 8}, "build", 7, 8, 1)
        web.cut(*pairs[3])
        self.assert_done(web, "build", *pairs[20], 1)
        self.assert_refused(web, "toomany", {"bound": 14}, "build", *pairs[3], 1)


class TheOthers(WebTest):
    DEEDS = [("cut",), ("snap",), ("mend",), ("charge", 3), ("charge", 0), ("deliver",), ("guard",)]

    def web(self):
        web = Web(RANGES)
        web.build(0, 1, price=2)
        web.build(1, 2, price=5)
        return web

    def test_no_house(self):
        web = self.web()
        for word, *price in self.DEEDS:
            for strange in strange_houses(4):
                self.assert_refused(web, "nohouse", {"house": strange}, word, strange, 0, *price)
                self.assert_refused(web, "nohouse", {"house": strange}, word, 0, strange, *price)
                self.assert_refused(web, "nohouse", {"house": strange}, word, strange, -50, *price)

    def test_no_tie_as_it_was_handed_in(self):
        web = self.web()
        for word, *price in self.DEEDS:
            for one, other in ((0, 2), (2, 0), (3, 1), (1, 3), (0, 0), (3, 3)):
                self.assert_refused(web, "notie", {"one": one, "other": other}, word, one, other, *price)

    def test_snap_and_mend_either_way_about(self):
        for one, other in ((1, 2), (2, 1)):
            web = self.web()
            self.assert_refused(web, "whole", {}, "mend", one, other)
            self.assert_done(web, "snap", one, other)
            self.assertEqual(web.ties(), [(0, 1, 2, True), (1, 2, 5, False)])
            self.assert_refused(web, "broken", {}, "snap", one, other)
            self.assert_refused(web, "broken", {}, "snap", other, one)
            self.assert_done(web, "mend", other, one)
            self.assertEqual(web.ties(), [(0, 1, 2, True), (1, 2, 5, True)])
            self.assert_refused(web, "whole", {}, "mend", one, other)

    def test_snap_and_mend_change_nothing_but_the_tie(self):
        web = self.web()
        web.settle()
        web.charge(0, 1, price=9)
        web.heed(0)
        before, twin = helper.told(web), web.twin()
        web.snap(1, 0)
        changed = {asked for asked, answer in helper.told(web).items() if answer != before[asked]}
        self.assertEqual(changed, {("ties",)})
        self.assertFalse(web == twin)
        web.mend(0, 1)
        self.assertEqual(helper.told(web), before)
        self.assertTrue(web == twin)

    def test_charge(self):
        web = self.web()
        for price in range(1, 10):
            self.assert_done(web, "charge", 1, 0, price)
            self.assertEqual(web.ties(), [(0, 1, price, True), (1, 2, 5, True)])
        self.assert_done(web, "charge", 0, 1, 9)
        for price in BAD_PRICES:
            self.assert_refused(web, "badprice", {}, "charge", 0, 1, price)
        web.snap(0, 1)
        self.assert_done(web, "charge", 0, 1, 4)
        self.assertEqual(web.ties(), [(0, 1, 4, False), (1, 2, 5, True)])
        self.assertEqual(web.view(0), [])

    def test_letters_in_broken_rows_wait(self):
        web = self.web()
        web.snap(0, 1)
        self.assertEqual(web.waiting(), [(1, 2, 1), (2, 1, 1)])
        self.assert_letters(web, 0, 1, ("tell", 0, 1, (0,)))
        self.assert_refused(web, "broken", {}, "deliver", 0, 1)
        self.assert_refused(web, "broken", {}, "deliver", 1, 0)
        web.mend(1, 0)
        self.assertEqual(web.waiting(), [(0, 1, 1), (1, 0, 1), (1, 2, 1), (2, 1, 1)])
        self.assertEqual(web.deliver(0, 1), ("tell", 0, 1, (0,)))

    def test_cut_takes_the_tie_away(self):
        for one, other in ((0, 1), (1, 0)):
            web = self.web()
            self.assert_done(web, "cut", one, other)
            self.assertEqual(web.ties(), [(1, 2, 5, True)])
            self.assertEqual(web.waiting(), [(1, 2, 1), (2, 1, 1)])
            self.assertEqual((web.holders(0, 1), web.holders(1, 11)), ([], [2]))
            self.assert_refused(web, "notie", {"one": one, "other": other}, "cut", one, other)
            self.assert_asked_refused(web, "notie", {"one": one, "other": other}, "letters", one, other)
            self.assert_done(web, "build", one, other, 7)
            self.assertEqual(web.ties(), [(0, 1, 7, True), (1, 2, 5, True)])
            self.assert_letters(web, 0, 1, ("tell", 0, 1, (0,)))

    def test_a_broken_tie_can_be_cut_and_built_whole(self):
        web = self.web()
        web.snap(0, 1)
        self.assert_done(web, "cut", 0, 1)
        web.build(0, 1)
        self.assertEqual(web.ties()[0], (0, 1, 1, True))

    def test_things_by_their_names(self):
        web = self.web()
        web.charge(other=1, price=4, one=0)
        web.snap(other=0, one=1)
        web.mend(other=0, one=1)
        self.assertEqual(web.deliver(other=0, one=1), ("tell", 1, 11, (1,)))
        web.cut(other=1, one=2)
        self.assertEqual(web.ties(), [(0, 1, 4, True)])


class Deliver(WebTest):
    def test_refusals_in_their_order(self):
        web = Web(RANGES)
        self.assert_refused(web, "nohouse", {"house": 4}, "deliver", 4, -1)
        self.assert_refused(web, "nohouse", {"house": -1}, "deliver", 0, -1)
        self.assert_refused(web, "notie", {"one": 1, "other": 0}, "deliver", 1, 0)
        self.assert_refused(web, "notie", {"one": 1, "other": 1}, "deliver", 1, 1)
        web.build(0, 1)
        web.deliver(0, 1)
        self.assert_refused(web, "noletter", {}, "deliver", 0, 1)
        web.snap(0, 1)
        self.assert_refused(web, "broken", {}, "deliver", 0, 1)
        self.assert_refused(web, "broken", {}, "deliver", 1, 0)
        web.mend(0, 1)
        self.assertEqual(web.deliver(1, 0), ("tell", 1, 11, (1,)))
        self.assert_refused(web, "noletter", {}, "deliver", 1, 0)

    def test_heed_of_no_house(self):
        web = Web(RANGES)
        for strange in strange_houses(4):
            self.assert_refused(web, "nohouse", {"house": strange}, "heed", strange)
