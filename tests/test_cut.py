"""Cutting a tie: [15], with [11] and [18] where a cut speaks of them."""

from helper import WebTest, pair_rows
from swapslip.web import Web

RANGES = [(1, 9), (11, 19), (21, 29), (31, 39)]


def built(pairs, ranges=RANGES):
    web = Web(list(ranges))
    for one, other in pairs:
        web.build(one, other)
    return web


def settled(pairs, ranges=RANGES):
    web = built(pairs, ranges)
    web.settle()
    return web


def deliver_all(web, one, other):
    for turn in range(len(web.letters(one, other))):
        web.deliver(one, other)


CHAIN = [(0, 1), (1, 2), (2, 3)]
RING = [(0, 1), (1, 2), (2, 3), (0, 3)]


class LettersInTheRows(WebTest):
    def test_they_are_no_more(self):
        for cut in ((0, 1), (1, 0)):
            web = built(CHAIN)
            web.heed(1)
            web.deliver(2, 1)
            self.assertEqual(len(web.letters(1, 0)), 2)
            web.cut(*cut)
            self.assertEqual(web.waiting(), [(1, 2, 2), (2, 3, 1), (3, 2, 1)])
            web.build(0, 1)
            # What 1 has by now is told anew, and the letters of before are not there.
            self.assert_letters(web, 1, 0, ("tell", 1, 11, (1,)), ("tell", 2, 12, (1, 2)))
            self.assert_letters(web, 0, 1, ("tell", 0, 1, (0,)))

    def test_those_of_a_broken_tie_too(self):
        web = built(CHAIN)
        web.snap(0, 1)
        web.cut(0, 1)
        web.build(0, 1)
        self.assertEqual((len(web.letters(0, 1)), len(web.letters(1, 0))), (1, 1))

    def test_a_void_on_its_way_is_needless_then(self):
        # 1 gave up its slip for 0, and the letter to 2 is lost with the tie.
        web = settled(CHAIN)
        number = web.live(1, 0)
        web.snap(0, 1)
        web.heed(1)
        self.assertEqual((web.letters(1, 2), web.holders(1, number)), ([("void", number)], [0, 2]))
        web.cut(1, 2)
        self.assertEqual(web.holders(1, number), [0])
        self.assertEqual(pair_rows(web.slips(1), ("goal", 0)), [(1, number, (0, 1), "old")])
        web.cut(0, 1)
        self.assertEqual(pair_rows(web.slips(1), ("goal", 0)), [])

    def test_a_back_on_its_way_is_needless_then(self):
        web = settled(CHAIN)
        number = web.live(1, 0)
        web.snap(0, 1)
        web.heed(1)
        web.deliver(1, 2)
        self.assertIn(("back", number), web.letters(2, 1))
        web.cut(1, 2)
        self.assertEqual(web.holders(1, number), [0])


class WhatLedOverTheTie(WebTest):
    def test_heard_holders_and_slips(self):
        web = settled(CHAIN)
        ahead = {(house, goal): web.live(house, goal) for house in range(4) for goal in range(4)}
        web.cut(2, 1)
        for house in (0, 1):
            self.assertEqual([row for row in web.heard(house) if row[0] == 2], [])
        self.assertEqual([row[:2] for row in web.heard(1)], [(0, 0), (0, 1), (0, 2), (0, 3)])
        self.assertEqual([row[:2] for row in web.heard(2)], [(3, 0), (3, 1), (3, 2), (3, 3)])
        # What led over it is dead, and stands until the others gave it back.
        self.assertEqual(pair_rows(web.rows(), ("goal", 2))[:2], [
            (0, ahead[(0, 2)], (1, ahead[(1, 2)]), "live"), (1, ahead[(1, 2)], (2, 21), "dead"),
        ])
        self.assertEqual([row[6] for row in web.slips(1)].count("dead"), 2)
        self.assertEqual([row[6] for row in web.slips(2)].count("dead"), 2)
        self.assertEqual([web.live(1, goal) for goal in range(4)], [ahead[(1, 0)], ahead[(1, 1)], None, None])
        self.assertEqual([web.live(2, goal) for goal in range(4)], [None, None, ahead[(2, 2)], ahead[(2, 3)]])
        for number in [row[1] for row in web.slips(1)]:
            self.assertEqual(web.holders(1, number), [0])
        self.assert_letters(web, 1, 0, *[("void", number) for number in sorted((ahead[(1, 2)], ahead[(1, 3)]))])
        self.assert_letters(web, 2, 3, *[("void", number) for number in sorted((ahead[(2, 0)], ahead[(2, 1)]))])
        # Nothing is heeded by it: both still see the tie and want each other.
        self.assertEqual((web.want(1, 2), web.want(2, 1), web.short()), (2, 1, []))

    def test_voids_go_by_rising_numbers(self):
        # 1 goes to 2 and by it to 0, and made its slip for 2 first.
        web = built([(1, 2), (1, 3)])
        web.heed(1)
        web.deliver(2, 1)
        web.build(0, 2)
        web.heed(2)
        web.deliver(0, 2)
        web.heed(1)
        web.deliver(2, 1)
        self.assertEqual((web.live(1, 2), web.live(1, 0), web.way(1, 0)), (12, 13, (1, 2, 0)))
        deliver_all(web, 1, 3)
        web.cut(1, 2)
        self.assert_letters(web, 1, 3, ("void", 12), ("void", 13))

    def test_an_old_one_dies_without_letters(self):
        web = settled(CHAIN)
        number = web.live(1, 2)
        web.snap(1, 2)
        web.heed(1)
        self.assert_letters(web, 1, 0, ("void", number), ("void", web.slips(1)[-1][1]))
        letters = web.letters(1, 0)
        web.cut(1, 2)
        self.assertEqual(web.letters(1, 0), letters)
        self.assertEqual(pair_rows(web.slips(1), ("goal", 2)), [(1, number, (2, 21), "dead")])

    def test_a_dead_one_that_only_the_other_held_comes_free(self):
        # 1 has a dead slip for 3 that 2 has not given back.
        web = settled(CHAIN)
        number = web.live(1, 3)
        web.cut(2, 3)
        web.deliver(2, 1)
        self.assertEqual(pair_rows(web.slips(1), ("goal", 3))[0][3], "dead")
        self.assertEqual(web.holders(1, number), [0, 2])
        self.assert_letters(web, 1, 0, ("void", number))
        web.deliver(1, 0)
        web.deliver(0, 1)
        self.assertEqual(web.holders(1, number), [2])
        web.cut(1, 2)
        self.assertEqual(pair_rows(web.slips(1), ("goal", 3)), [])

    def test_those_that_nobody_else_holds_come_free_at_once(self):
        web = settled([(0, 1)])
        self.assertEqual(len(web), 6)
        web.cut(0, 1)
        self.assertEqual(web.rows(), [(at, RANGES[at][0], ("goal", at), None, (at,), at + 1, "live") for at in range(4)])

    def test_the_numbers_are_given_anew_at_once(self):
        # 0 has numbers for 1 and one more goal; it goes to 2 and is short of one to 3.
        web = settled([(0, 1), (0, 2), (0, 3)], [(1, 3), (11, 19), (21, 29), (31, 39)])
        self.assertEqual(([web.live(0, goal) for goal in range(4)], web.short()), ([1, 2, 3, None], [0]))
        for cut in (1, 2):
            web.snap(0, cut)
        web.heed(0)
        self.assertEqual([row[6] for row in web.slips(0)], ["live", "old", "old"])
        web.cut(0, 1)
        self.assertEqual((web.holders(0, 2), web.holders(0, 3)), ([2, 3], [2, 3]))
        web.deliver(0, 3)
        web.deliver(3, 0)
        self.assertEqual((web.holders(0, 2), web.short()), ([2], [0]))
        web.cut(0, 2)
        self.assertEqual(pair_rows(web.slips(0), ("goal", 3)), [(0, 2, (3, 31), "live")])
        self.assertEqual(web.short(), [])

    def test_each_tries_all_goals(self):
        # 0 wants 2 by now but was short of a number; the cut sets one free.
        web = settled([(0, 1), (0, 2)], [(1, 2), (11, 19), (21, 29)])
        self.assertEqual((web.live(0, 1), web.live(0, 2), web.short()), (2, None, [0]))
        web.snap(0, 1)
        web.heed(0)
        web.deliver(0, 2)
        web.deliver(2, 0)
        self.assertEqual((web.holders(0, 2), web.short()), ([1], [0]))
        web.cut(0, 1)
        self.assertEqual((web.live(0, 2), web.short()), (2, []))

    def test_the_lesser_house_first(self):
        # 0 lacks a number for 2, and 1 one for 3; both have one that only the other holds.
        for cut in ((0, 1), (1, 0)):
            web = settled([(0, 1)], [(1, 2), (11, 12), (21, 29), (31, 39)])
            web.build(0, 2)
            web.build(1, 3)
            web.snap(0, 1)
            for house, other in ((1, 3), (0, 2)):
                web.heed(house)
                deliver_all(web, other, house)
                deliver_all(web, house, other)
                deliver_all(web, other, house)
            self.assertEqual((web.holders(0, 2), web.holders(1, 12), web.short()), ([1], [0], [0, 1]))
            made = web.made()
            web.cut(*cut)
            self.assertEqual(web.slips(0)[1:], [(0, 2, ("goal", 2), (2, 21), (0, 2), made + 1, "live")])
            self.assertEqual(web.slips(1)[1:], [(1, 12, ("goal", 3), (3, 31), (1, 3), made + 2, "live")])

    def test_a_web_cut_and_built_again_settles_as_before(self):
        web = settled(RING)
        ways = {(house, goal): web.way(house, goal) for house in range(4) for goal in range(4)}
        for one, other in RING:
            web.cut(one, other)
            web.build(other, one)
            web.settle()
            self.assertEqual({(house, goal): web.way(house, goal) for house in range(4) for goal in range(4)}, ways)
            self.assertEqual(len(web), 16)


class TunnelsOnTheWay(WebTest):
    def test_each_on_whose_way_the_tie_lies_is_felled(self):
        web = settled(RING)
        web.tunnel([0, 1, 2])
        web.tunnel([2, 1, 0])
        web.tunnel([1, 2, 3])
        web.tunnel([0, 3, 2])
        web.tunnel([3, 0, 1, 2])
        web.settle()
        web.cut(1, 0)
        self.assertEqual([row[0] for row in web.tunnels()], [3, 4])
        for number in (1, 2, 5):
            self.assert_refused(web, "notunnel", {"number": number}, "fell", number)
        web.build(0, 1)
        web.settle()
        # A felled one stays felled, and its number is not given again.
        self.assertEqual([row[0] for row in web.tunnels()], [3, 4])
        self.assertEqual(web.tunnel([0, 1, 2]), 6)

    def test_both_ends_of_the_tie_must_be_neighbours_on_the_way(self):
        web = settled(RING + [(0, 2)])
        web.tunnel([0, 1, 2])
        web.settle()
        web.cut(0, 2)
        self.assertEqual(web.tunnels(), [(1, (0, 1, 2), (1, 15))])

    def test_the_first_tie_of_the_way(self):
        web = settled(CHAIN)
        web.tunnel([0, 1, 2])
        web.settle()
        self.assertEqual(web.tunnels(), [(1, (0, 1, 2), (1, 15))])
        web.cut(0, 1)
        self.assertEqual(web.tunnels(), [])
        # 0 was the one holder of 1's slip, but 1 has not heard yet of the felling.
        self.assertEqual(pair_rows(web.rows(), ("tunnel", 1)), [(1, 15, (2, 25), "live"), (2, 25, None, "old")])
        self.assertEqual((web.holders(1, 15), web.holders(2, 25)), ([], [1]))
        self.assertIn(("void", 25), web.letters(2, 1))
        web.settle()
        self.assertEqual(pair_rows(web.rows(), ("tunnel", 1)), [])

    def test_the_last_tie_of_the_way(self):
        web = settled(CHAIN)
        web.tunnel([0, 1, 2])
        web.settle()
        web.cut(2, 1)
        # The void over the cut tie is lost; 1 finds out by the cut itself.
        self.assertEqual(pair_rows(web.rows(), ("tunnel", 1)), [(1, 15, (2, 25), "dead")])
        self.assertIn(("void", 15), web.letters(1, 0))
        self.assertEqual(web.tunnels(), [])
        web.settle()
        self.assertEqual(pair_rows(web.rows(), ("tunnel", 1)), [])

    def test_a_felled_one_that_is_ready_is_so_no_more_where_its_lead_is_cut(self):
        web = settled(CHAIN)
        web.tunnel([0, 1, 2])
        web.settle()
        web.fell(1)
        twin = web.twin()
        self.assertEqual(web.ready(), [(1, (0, 1, 2), (1, 15))])
        web.cut(0, 1)
        self.assertEqual(web.ready(), [])
        twin.cut(1, 2)
        self.assertEqual(twin.ready(), [(1, (0, 1, 2), (1, 15))])

    def test_the_slip_of_the_last_house_is_gone_where_nobody_else_holds_it(self):
        web = settled(CHAIN)
        web.tunnel([1, 2, 3])
        self.assertEqual(pair_rows(web.rows(), ("tunnel", 1)), [(3, 35, None, "live")])
        web.cut(2, 3)
        self.assertEqual([row[1] for row in web.slips(3)], [31])
        self.assertEqual(web.tunnels(), [])

    def test_numbers_that_come_free_by_the_cut_are_for_what_waits(self):
        # At 2 the tunnel 1 - 2 - 3 waits, and the cut sets the number of the tunnel 0 - 1 - 2 free there.
        web = settled(CHAIN + [(2, 0)], [(1, 9), (11, 19), (21, 25), (31, 39)])
        self.assertEqual(web.tunnel([0, 1, 2]), 1)
        self.assertEqual(web.tunnel([0, 2, 3]), 2)
        web.deliver(3, 2)
        self.assertEqual(web.short(), [2])
        web.cut(1, 2)
        self.assertEqual((web.short(), web.tunnels()), ([], [(2, (0, 2, 3), None)]))
        self.assertEqual(pair_rows(web.slips(2), ("tunnel", 1)), [])
        self.assertEqual(pair_rows(web.slips(2), ("tunnel", 2)), [(2, 25, (3, 35), "live")])
        self.assertEqual(web.letters(2, 0)[-1], ("lay", 2, 25, (0, 2, 3)))


class WhatWaits(WebTest):
    def web(self):
        """The tunnel 0 - 1 - 2 waits at 1 for a number."""
        web = settled(CHAIN, [(1, 9), (11, 14), (21, 29), (31, 39)])
        web.tunnel([0, 1, 2])
        web.deliver(2, 1)
        self.assertEqual((web.short(), web.tunnels()), ([1], [(1, (0, 1, 2), None)]))
        return web

    def test_with_a_number_of_the_other(self):
        web = self.web()
        web.cut(1, 2)
        self.assertEqual((web.short(), web.tunnels()), ([], []))
        # The numbers that came free are for no tunnel.
        web.settle()
        self.assertEqual(pair_rows(web.rows(), ("tunnel", 1)), [])

    def test_with_the_other_as_the_house_ahead(self):
        web = self.web()
        web.cut(0, 1)
        self.assertEqual((web.short(), web.tunnels()), ([], []))
        self.assertEqual(pair_rows(web.rows(), ("tunnel", 1)), [(2, 25, None, "old")])
        # Though numbers come free at 1, nothing is laid there any more.
        web.settle()
        self.assertEqual(pair_rows(web.rows(), ("tunnel", 1)), [])

    def test_another_tie_lets_it_wait(self):
        web = self.web()
        web.cut(2, 3)
        self.assertEqual((web.short(), web.tunnels()), ([1], [(1, (0, 1, 2), None)]))
        web.settle()
        self.assertEqual((web.short(), web.tunnels()), ([], [(1, (0, 1, 2), (1, 14))]))
