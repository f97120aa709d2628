"""Settling: [24], and what is so behind it: [22], [23]."""

import random

import helper
from helper import WebTest, done, told
from swapslip.web import Web


def drawn_web(rng, many, wide, deeds):
    """A web behind drawn deeds; the slow web draws them along with it."""
    ranges = helper.drawn_ranges(rng, many, wide)
    web, slow = Web(ranges), helper.SlowWeb(ranges)
    first = helper.first_deeds(rng, many)
    for turn in range(deeds):
        deed = first[turn] if turn < len(first) else helper.drawn_deed(rng, slow)
        done(web, deed)
        slow.do(deed)
    return web


def whole_ties(web):
    return [(one, other, price) for one, other, price, whole in web.ties() if whole]


class Settle(WebTest):
    def assert_as_told_ways(self, web):
        """[23], by reckoning the ways anew."""
        many, ties = web.many(), whole_ties(web)
        for house in range(many):
            for goal in range(many):
                way = helper.way_by_the_words(many, ties, house, goal)
                self.assertEqual(web.way(house, goal), None if isinstance(way, list) else way[1], (house, goal))
                self.assertEqual(web.live(house, goal) is None, isinstance(way, list))

    def test_one_house(self):
        web = Web([(1, 9)])
        twin = web.twin()
        self.assertEqual(web.settle(), 0)
        self.assertTrue(web == twin)

    def test_no_ties(self):
        web = Web([(1, 9)] * 8)
        self.assertEqual((web.settle(), len(web)), (0, 8))

    def test_all_houses_heed(self):
        web = Web([(1, 9), (11, 19), (21, 29)])
        web.build(0, 1)
        web.build(1, 2, price=4)
        web.snap(0, 1)
        self.assertEqual(web.settle(), 4)
        self.assertEqual([web.view(house) for house in range(3)], [[(1, 2, 4)]] * 3)
        # Letters in the broken tie's rows wait, and more came to them.
        self.assertEqual((web.waiting(), len(web.letters(0, 1)), len(web.letters(1, 0))), ([], 1, 2))

    def test_a_tree_is_told_along_each_tie(self):
        # Each of the 8 goals is told over each of the 7 ties, either way.
        web = Web([(1, 9)] * 8)
        for at in range(7):
            web.build(at, at + 1)
        self.assertEqual((web.settle(), len(web), web.made()), (112, 64, 64))

    def test_as_deed_by_deed_from_the_least_row(self):
        rng = random.Random(31)
        for turn in range(30):
            web = drawn_web(rng, rng.randint(2, 6), turn % 2, 40)
            twin = web.twin()
            count = web.settle()
            for house in range(twin.many()):
                twin.heed(house)
            went = 0
            while twin.waiting():
                one, other, letters = min(twin.waiting())
                self.assertEqual(letters, len(twin.letters(one, other)))
                twin.deliver(one, other)
                went += 1
            self.assertEqual(count, went)
            self.assertTrue(web == twin)
            self.assertEqual(told(web), told(twin))

    def test_twice(self):
        rng = random.Random(32)
        for turn in range(60):
            web = drawn_web(rng, rng.randint(1, 8), turn % 2, 40)
            web.settle()
            twin = web.twin()
            self.assertEqual(web.waiting(), [])
            self.assertEqual(web.settle(), 0)
            self.assertTrue(web == twin)

    def test_told_ways_behind_it_with_wide_ranges(self):
        rng = random.Random(33)
        ended = 0
        for turn in range(80):
            web = drawn_web(rng, rng.randint(1, 8), True, 30)
            web.settle()
            self.assertEqual(helper.row_faults(web.ranges(), web.rows()), [])
            if web.short() == []:
                ended += 1
                self.assert_as_told_ways(web)
        self.assertGreater(ended, 50)

    def test_told_ways_behind_it_where_nobody_is_short(self):
        rng = random.Random(34)
        short = 0
        for turn in range(80):
            web = drawn_web(rng, rng.randint(1, 6), False, 30)
            web.settle()
            self.assertEqual(helper.row_faults(web.ranges(), web.rows()), [])
            short += web.short() != []
            if web.short() == []:
                self.assert_as_told_ways(web)
        self.assertTrue(20 < short < 75, short)

    def test_on_webs_at_the_bounds(self):
        for many, ties in helper.full_webs():
            web = Web([(1, 64)] * many)
            for one, other, price in ties:
                web.build(one, other, price=price)
            self.assertGreater(web.settle(), 0)
            self.assertEqual((web.short(), web.waiting()), ([], []))
            self.assert_as_told_ways(web)
            for one, other, price in ties[:5]:
                web.snap(one, other)
                web.settle()
                self.assert_as_told_ways(web)
                web.charge(one, other, price=10 - price)
                web.mend(one, other)
            web.settle()
            self.assert_as_told_ways(web)

    def test_houses_that_heed_and_letters_that_come_in_any_order(self):
        rng = random.Random(35)
        for many, ties in helper.drawn_webs(40):
            web = Web([(1, 64)] * many)
            for one, other, price in ties:
                web.build(one, other, price=price)
            late = list(range(many))
            rng.shuffle(late)
            while late or web.waiting():
                if late and (rng.random() < 0.1 or not web.waiting()):
                    web.heed(late.pop())
                if web.waiting():
                    web.deliver(*rng.choice(web.waiting())[:2])
            self.assertEqual(web.short(), [])
            self.assert_as_told_ways(web)
