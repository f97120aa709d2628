import copy
import itertools
import random
import unittest

import helper
from swapslip import ways
from swapslip.errors import Lone, NoHouse, NoTie, NoWay
from swapslip.ways import far, far_holds, least_way, nexts, round_way

WEBS = helper.small_webs() + helper.drawn_webs() + helper.full_webs()
FEW_WEBS = helper.small_webs()[::5] + helper.drawn_webs(64)

# 0 and 3 are joined by two ways of price 4 and a dear tie; 4 and 5 lie apart.
DIAMOND = [(3, 1, 3), (0, 2, 2), (2, 3, 2), (1, 0, 1), (3, 0, 9), (5, 4, 7)]


class WayTest(unittest.TestCase):
    def assert_no_house(self, house, call, *things):
        with self.assertRaises(NoHouse) as held:
            call(*things)
        self.assertEqual(held.exception.house, house)

    def assert_lot(self, lot, refused, call, *things):
        with self.assertRaises(refused) as held:
            call(*things)
        self.assertEqual(held.exception.lot, lot)

    def assert_tells(self, told, refused, call, *things):
        """What is told by helper is a pair, or else the lot of the refusal."""
        if type(told) is tuple:
            self.assertEqual(call(*things), told)
        else:
            self.assert_lot(told, refused, call, *things)


class TheBounds(unittest.TestCase):
    def test_the_bounds(self):
        self.assertEqual((ways.MOST_HOUSES, ways.MOST_TIES, ways.MOST_PRICE), (8, 14, 9))

    def test_the_tested_webs_come_to_the_bounds(self):
        self.assertEqual({many for many, ties in WEBS}, set(range(1, 9)))
        self.assertEqual({len(ties) for many, ties in WEBS}, set(range(15)))
        self.assertEqual({price for many, ties in WEBS for one, other, price in ties}, set(range(1, 10)))

    def test_somewhat_beyond_the_bounds_nothing_is_refused(self):
        ties = [(at, at + 1, 10) for at in range(9)] + [(9, at, 90 - 10 * at) for at in range(8)]
        self.assertEqual(far(10, ties, 9), [90 - 10 * at for at in range(10)])
        self.assertTrue(far_holds(10, ties, 9, far(10, ties, 9)))


class Far(WayTest):
    def test_told_prices(self):
        self.assertEqual(far(6, DIAMOND, 3), [4, 3, 2, 0, None, None])
        self.assertEqual(far(6, DIAMOND, 4), [None, None, None, None, 0, 7])

    def test_one_house_alone(self):
        self.assertEqual(far(1, [], 0), [0])

    def test_no_ties(self):
        self.assertEqual(far(3, [], 1), [None, 0, None])

    def test_a_chain_in_the_worst_order(self):
        for ties in ([(at, at + 1, 9) for at in range(7)], [(at + 1, at, 9) for at in reversed(range(7))]):
            self.assertEqual(far(8, ties, 0), [9 * at for at in range(8)])
            self.assertEqual(far(8, ties, 7), [63 - 9 * at for at in range(8)])

    def test_as_all_ways_walked_tell(self):
        for many, ties in WEBS:
            for goal in range(many):
                self.assertEqual(far(many, ties, goal), helper.prices_by_all_ways(many, ties, goal))

    def test_any_order_and_either_way_about(self):
        rng = random.Random(3)
        for many, ties in helper.full_webs():
            for goal in range(many):
                told = far(many, ties, goal)
                onward = nexts(many, ties, goal)
                for turn in range(5):
                    mixed = helper.turned(rng, ties)
                    self.assertEqual(far(many, mixed, goal), told)
                    self.assertEqual(nexts(many, mixed, goal), onward)
                    self.assertTrue(far_holds(many, mixed, goal, told))

    def test_no_such_goal(self):
        for many in (1, 6, 8):
            for goal in helper.strange_houses(many):
                self.assert_no_house(goal, far, many, [], goal)

    def test_things_by_their_names(self):
        self.assertEqual(far(goal=0, ties=[(1, 0, 4)], many=2), [0, 4])


class Nexts(WayTest):
    def test_the_least_numbered_of_several(self):
        self.assertEqual(nexts(6, DIAMOND, 3), [1, 3, 3, None, None, None])
        self.assertEqual(nexts(6, DIAMOND, 0), [None, 0, 0, 1, None, None])

    def test_least_numbered_whatever_order_the_ties_have(self):
        spokes = [(near, end, 1) for near in (1, 2, 3) for end in (0, 4)]
        for ties in itertools.permutations(spokes):
            self.assertEqual(nexts(5, list(ties), 4), [1, 4, 4, 4, None])

    def test_the_goal_and_the_lost_have_none(self):
        self.assertEqual(nexts(1, [], 0), [None])
        self.assertEqual(nexts(3, [(0, 1, 2)], 0), [None, 0, None])
        self.assertEqual(nexts(4, [(2, 3, 1)], 0), [None] * 4)

    def test_a_cheap_tie_does_not_draw(self):
        self.assertEqual(nexts(3, [(0, 1, 1), (1, 2, 9), (0, 2, 5)], 2), [2, 0, None])

    def test_as_the_words_tell(self):
        for many, ties in WEBS:
            for goal in range(many):
                self.assertEqual(nexts(many, ties, goal), helper.nexts_by_the_words(many, ties, goal))

    def test_no_such_goal(self):
        for many in (1, 6, 8):
            for goal in helper.strange_houses(many):
                self.assert_no_house(goal, nexts, many, [], goal)

    def test_things_by_their_names(self):
        self.assertEqual(nexts(goal=0, ties=[(1, 0, 4)], many=2), [None, 0])


class LeastWay(WayTest):
    def test_told_ways(self):
        self.assertEqual(least_way(6, DIAMOND, 0, 3), (4, (0, 1, 3)))
        self.assertEqual(least_way(6, DIAMOND, 3, 0), (4, (3, 1, 0)))
        self.assertEqual(least_way(6, DIAMOND, 1, 2), (3, (1, 0, 2)))

    def test_the_goal_itself(self):
        self.assertEqual(least_way(1, [], 0, 0), (0, (0,)))
        for house in range(6):
            self.assertEqual(least_way(6, DIAMOND, house, house), (0, (house,)))

    def test_no_way_bears_the_lot(self):
        for start, goal, lot in ((0, 4, [0, 1, 2, 3]), (5, 3, [4, 5]), (4, 0, [4, 5])):
            self.assert_lot(lot, NoWay, least_way, 6, DIAMOND, start, goal)

    def test_a_start_without_ties_is_the_lot(self):
        self.assert_lot([7], NoWay, least_way, 8, [(0, 1, 1)], 7, 1)

    def test_as_the_words_tell(self):
        for many, ties in WEBS:
            for start, goal in itertools.product(range(many), repeat=2):
                told = helper.way_by_the_words(many, ties, start, goal)
                self.assert_tells(told, NoWay, least_way, many, ties, start, goal)

    def test_kinds_of_what_is_told(self):
        told = least_way(6, DIAMOND, 0, 3)
        self.assertIs(type(told), tuple)
        self.assertIs(type(told[1]), tuple)

    def test_no_such_start_or_goal(self):
        for many in (1, 6, 8):
            for strange in helper.strange_houses(many):
                self.assert_no_house(strange, least_way, many, [], strange, 0)
                self.assert_no_house(strange, least_way, many, [], 0, strange)

    def test_the_start_is_refused_ahead_of_the_goal(self):
        for start, goal in itertools.permutations(helper.strange_houses(6), 2):
            self.assert_no_house(start, least_way, 6, DIAMOND, start, goal)

    def test_houses_are_refused_ahead_of_no_way(self):
        self.assert_no_house(6, least_way, 6, DIAMOND, 4, 6)
        self.assert_no_house(6, least_way, 6, DIAMOND, 6, 4)

    def test_things_by_their_names(self):
        self.assertEqual(least_way(goal=0, start=1, ties=[(1, 0, 4)], many=2), (4, (1, 0)))


def wrong_lists(many, ties, goal, told):
    """Lists close to the right one, and some far from it."""
    lists = [[], told + [None], told + [0], told + [1], told[:-1], told + told]
    for at in range(many):
        for item in {None, 0, told[at] if told[at] is None else told[at] + 1, 10 ** 39, -10 ** 39, -1, 1}:
            lists.append(told[:at] + [item] + told[at + 1:])
        if told[at] is not None:
            lists.append(told[:at] + [told[at] - 1] + told[at + 1:])
    for more in (1, -1, 10 ** 39):
        lists.append([None if price is None else price + more for price in told])
    lists += [helper.prices_by_all_ways(many, ties, other) for other in range(many) if other != goal]
    lists += [[0] * many, [None] * many, [10 ** 39] * many]
    return [wrong for wrong in lists if wrong != told]


class FarHolds(WayTest):
    def test_true_for_what_far_tells(self):
        for many, ties in WEBS:
            for goal in range(many):
                told = helper.prices_by_all_ways(many, ties, goal)
                self.assertIs(far_holds(many, ties, goal, told), True)
                self.assertIs(far_holds(many, ties, goal, far(many, ties, goal)), True)

    def test_false_for_wrong_lists(self):
        for many, ties in FEW_WEBS:
            for goal in range(many):
                told = helper.prices_by_all_ways(many, ties, goal)
                for wrong in wrong_lists(many, ties, goal, told):
                    self.assertIs(far_holds(many, ties, goal, wrong), False, (many, ties, goal, wrong))

    def test_just_one_of_all_small_lists(self):
        items = [None, -1, 0, 1, 2, 3, 4, 5]
        for many, ties in helper.small_webs()[::3]:
            for goal in range(many):
                held = [list(told) for told in itertools.product(items, repeat=many)
                        if far_holds(many, ties, goal, list(told))]
                told = helper.prices_by_all_ways(many, ties, goal)
                self.assertEqual(held, [told] if set(told) <= set(items) else [])

    def test_a_ring_apart_cannot_bear_itself(self):
        ring = [(1, 2, 1), (2, 3, 1), (3, 1, 1)]
        for told in itertools.product([None, 0, 1, 2, 3], repeat=3):
            self.assertEqual(far_holds(4, ring, 0, [0, *told]), told == (None, None, None))

    def test_too_dear_a_way_is_seen_by_its_tie(self):
        self.assertFalse(far_holds(3, [(0, 1, 1), (1, 2, 1), (0, 2, 5)], 0, [0, 1, 5]))

    def test_no_such_goal_whatever_the_list_is(self):
        for told in ([], [0], [0, None], [None] * 6, far(6, DIAMOND, 3), [0] * 9):
            for goal in helper.strange_houses(6):
                self.assert_no_house(goal, far_holds, 6, DIAMOND, goal, told)

    def test_things_by_their_names(self):
        self.assertTrue(far_holds(told=[0, 4], goal=0, ties=[(1, 0, 4)], many=2))


def other_ties(ties, one, other):
    return [tie for tie in ties if {tie[0], tie[1]} != {one, other}]


class RoundWay(WayTest):
    def test_round_a_tie(self):
        self.assertEqual(round_way(6, DIAMOND, 0, 1), (7, (0, 2, 3, 1)))
        self.assertEqual(round_way(6, DIAMOND, 1, 0), (7, (1, 3, 2, 0)))
        self.assertEqual(round_way(6, DIAMOND, 3, 0), (4, (3, 1, 0)))

    def test_round_a_tie_that_is_cheaper_than_all_else(self):
        for tie in ((0, 1, 1), (1, 0, 1)):
            ties = [tie, (0, 2, 9), (2, 1, 9)]
            self.assertEqual(round_way(3, ties, 0, 1), (18, (0, 2, 1)))
            self.assertEqual(round_way(3, ties, 1, 0), (18, (1, 2, 0)))

    def test_houses_that_are_not_joined(self):
        self.assertEqual(round_way(6, DIAMOND, 1, 2), (3, (1, 0, 2)))
        self.assertEqual(round_way(6, DIAMOND, 2, 1), (3, (2, 0, 1)))

    def test_lone_bears_the_lot_without_the_tie(self):
        for one, other, lot in ((4, 5, [4]), (5, 4, [5]), (5, 0, [4, 5]), (2, 4, [0, 1, 2, 3])):
            self.assert_lot(lot, Lone, round_way, 6, DIAMOND, one, other)

    def test_no_ties_at_all(self):
        self.assert_lot([1], Lone, round_way, 2, [], 1, 0)

    def test_as_the_words_tell(self):
        for many, ties in WEBS:
            for one, other in itertools.permutations(range(many), 2):
                told = helper.way_by_the_words(many, other_ties(ties, one, other), one, other)
                self.assert_tells(told, Lone, round_way, many, ties, one, other)

    def test_the_one_is_refused_ahead_of_the_other(self):
        for one, other in itertools.product(helper.strange_houses(6), repeat=2):
            self.assert_no_house(one, round_way, 6, DIAMOND, one, other)

    def test_no_such_house_ahead_of_lone(self):
        for strange in helper.strange_houses(6):
            self.assert_no_house(strange, round_way, 6, [], strange, 0)
            self.assert_no_house(strange, round_way, 6, [], 0, strange)

    def test_both_are_one(self):
        for ties in (DIAMOND, []):
            for house in range(6):
                with self.assertRaises(NoTie) as held:
                    round_way(6, ties, house, house)
                self.assertEqual((held.exception.one, held.exception.other), (house, house))

    def test_things_by_their_names(self):
        ties = [(1, 0, 4), (1, 2, 1), (0, 2, 1)]
        self.assertEqual(round_way(other=0, one=1, ties=ties, many=3), (2, (1, 2, 0)))


class WhatIsHandedIn(unittest.TestCase):
    def test_nothing_is_changed(self):
        for many, ties in FEW_WEBS:
            ahead = copy.deepcopy(ties)
            for one, other in itertools.product(range(many), repeat=2):
                told = far(many, ties, one)
                kept = list(told)
                far_holds(many, ties, other, told)
                nexts(many, ties, one)
                for call in (least_way, round_way):
                    try:
                        call(many, ties, one, other)
                    except (NoWay, Lone, NoTie):
                        pass
                self.assertEqual((ties, told), (ahead, kept))

    def test_each_told_list_is_a_new_one(self):
        for call in (far, nexts):
            told = call(6, DIAMOND, 3)
            kept = list(told)
            told[:] = [99]
            self.assertEqual(call(6, DIAMOND, 3), kept)

    def test_each_lot_is_a_new_one(self):
        for call, refused in ((least_way, NoWay), (round_way, Lone)):
            for turn in range(2):
                with self.assertRaises(refused) as held:
                    call(6, DIAMOND, 5, 0)
                self.assertEqual(held.exception.lot, [4, 5])
                held.exception.lot.clear()
