"""Tunnels: [16] to [18], and `guard`."""

from helper import WebTest, pair_rows, strange_houses
from swapslip.web import Web

FAR = 10 ** 39
RANGES = [(10 * at + 1, 10 * at + 9) for at in range(8)]


def settled(pairs, ranges=RANGES):
    web = Web(list(ranges))
    for one, other in pairs:
        web.build(one, other)
    web.settle()
    return web


def chain(many):
    return [(at, at + 1) for at in range(many - 1)]


def deliver_all(web, one, other):
    return [web.deliver(one, other) for turn in range(len(web.letters(one, other)))]


RING = [(0, 1), (1, 2), (2, 3), (0, 3)]


class Laid(WebTest):
    def test_house_by_house(self):
        web = settled(RING, RANGES[:4])
        made = web.made()
        self.assertEqual(web.tunnel([1, 0, 3, 2]), 1)
        way = (1, 0, 3, 2)
        self.assertEqual(web.tunnels(), [(1, way, None)])
        self.assertEqual(web.slips(2)[-1], (2, 25, ("tunnel", 1), None, (2,), made + 1, "live"))
        self.assertEqual(web.holders(2, 25), [3])
        self.assertEqual((web.made(), web.waiting()), (made + 1, [(2, 3, 1)]))
        self.assert_comes(web, (2, 3, ("lay", 1, 25, way)))
        self.assertEqual(web.slips(3)[-1], (3, 35, ("tunnel", 1), (2, 25), (3, 2), made + 2, "live"))
        self.assertEqual((web.holders(3, 35), web.waiting()), ([0], [(3, 0, 1)]))
        self.assert_comes(web, (3, 0, ("lay", 1, 35, way)))
        self.assertEqual(web.slips(0)[-1], (0, 5, ("tunnel", 1), (3, 35), (0, 3, 2), made + 3, "live"))
        self.assertEqual((web.holders(0, 5), web.waiting()), ([1], [(0, 1, 1)]))
        self.assertEqual(web.tunnels(), [(1, way, None)])
        self.assert_comes(web, (0, 1, ("lay", 1, 5, way)))
        # The first house makes none.
        self.assertEqual((web.tunnels(), web.waiting(), web.made()), ([(1, way, (0, 5))], [], made + 3))
        self.assertEqual(len(web.slips(1)), 4)
        # Slips for tunnels are none for goals, and heeding does not touch them.
        self.assertEqual([web.live(1, goal) for goal in range(4)], [12, 11, 13, 14])
        twin = web.twin()
        for house in range(4):
            web.heed(house)
        self.assertTrue(web == twin)

    def test_along_ways_of_three_to_eight_houses(self):
        for many in range(3, 9):
            web = settled(chain(8), [(20 * at + 1, 20 * at + 20) for at in range(8)])
            for way in (list(range(many)), list(range(many))[::-1], tuple(range(8 - many, 8))):
                number = web.tunnel(way)
                self.assertEqual(web.settle(), many - 1)
                told = web.tunnels()[number - 1]
                self.assertEqual(told[:2], (number, tuple(way)))
                self.assertEqual(told[2][0], way[1])
                rows = {row[0]: row for row in web.rows() if row[2] == ("tunnel", number)}
                self.assertEqual(sorted(rows), sorted(way[1:]))
                self.assertEqual(told[2], rows[way[1]][:2])
                for at in range(1, many):
                    out = rows[way[at + 1]][:2] if at + 1 < many else None
                    self.assertEqual((rows[way[at]][3], rows[way[at]][4]), (out, tuple(way[at:])))
                    self.assertEqual(web.holders(*rows[way[at]][:2]), [way[at - 1]])

    def test_the_way_that_was_handed_in_is_changed_behind(self):
        web = settled(RING, RANGES[:4])
        way = [0, 1, 2]
        web.tunnel(way=way)
        self.assertEqual(way, [0, 1, 2])
        way[0] = 3
        way.append(7)
        self.assertEqual(web.tunnels(), [(1, (0, 1, 2), None)])
        self.assertEqual(web.letters(2, 1), [("lay", 1, 25, (0, 1, 2))])
        web.settle()
        self.assertEqual(web.tunnels(), [(1, (0, 1, 2), (1, 15))])

    def test_over_broken_ties_too(self):
        web = settled(RING, RANGES[:4])
        web.snap(1, 2)
        self.assertEqual(web.tunnel([0, 1, 2]), 1)
        self.assertEqual(web.letters(2, 1), [("lay", 1, 25, (0, 1, 2))])
        self.assertEqual(web.waiting(), [])
        web.mend(1, 2)
        web.snap(0, 1)
        # The tie to the house ahead is broken, but joined they are.
        web.deliver(2, 1)
        self.assertEqual(web.letters(1, 0), [("lay", 1, 15, (0, 1, 2))])

    def test_several_along_one_way(self):
        web = settled(RING, RANGES[:4])
        for number in (1, 2, 3):
            self.assertEqual(web.tunnel((0, 1, 2)), number)
        web.settle()
        self.assertEqual(web.tunnels(), [(at, (0, 1, 2), (1, 14 + at)) for at in (1, 2, 3)])

    def test_build_does_not_tell_them(self):
        web = settled(chain(3), RANGES[:4])
        web.tunnel([0, 1, 2])
        web.settle()
        web.build(2, 3)
        self.assertEqual([letter[:2] for letter in web.letters(2, 3)], [("tell", 0), ("tell", 1), ("tell", 2)])


class Refused(WebTest):
    def test_houses_that_there_are_none(self):
        web = settled(RING, RANGES[:4])
        for strange in strange_houses(4):
            for way in ((strange,), (0, strange), (strange, 1, 2), (0, strange, 2), (0, 1, strange), (0, 0, 1, strange)):
                self.assert_refused(web, "nohouse", {"house": strange}, "tunnel", way)
                self.assert_refused(web, "nohouse", {"house": strange}, "tunnel", list(way) + [77])

    def test_bad_ways(self):
        web = settled(RING, RANGES[:4])
        bad = [(), (0,), (0, 1), (0, 0), (0, 2), (0, 1, 0), (0, 1, 1), (0, 0, 1), (2, 2, 2), (0, 1, 2, 0), (0, 2, 0)]
        for way in bad + [(0, 1, 2, 3, 1), (0, 1, 2, 3, 0, 1, 2, 3, 0)]:
            self.assert_refused(web, "badway", {}, "tunnel", way)
            self.assert_refused(web, "badway", {}, "tunnel", list(way))

    def test_the_first_two_that_are_not_joined(self):
        web = settled(RING, RANGES[:4])
        for way, one, other in (((0, 2, 3), 0, 2), ((2, 0, 1), 2, 0), ((0, 1, 3), 1, 3), ((1, 3, 0), 1, 3),
                                ((3, 1, 0), 3, 1), ((0, 1, 3, 2), 1, 3), ((0, 2, 1, 3), 0, 2), ((3, 2, 0, 1), 2, 0)):
            self.assert_refused(web, "notie", {"one": one, "other": other}, "tunnel", way)

    def test_short_last_of_all(self):
        web = settled(RING, [(1, 9), (11, 19), (21, 24), (31, 39)])
        self.assert_refused(web, "short", {"house": 2}, "tunnel", (0, 1, 2))
        self.assert_refused(web, "short", {"house": 2}, "tunnel", [1, 0, 3, 2])
        self.assert_refused(web, "notie", {"one": 0, "other": 2}, "tunnel", (3, 0, 2))
        self.assert_refused(web, "badway", {}, "tunnel", (1, 2))
        self.assert_refused(web, "short", {"house": 2}, "guard", 1, 2)
        # A refused one took no number.
        self.assertEqual(web.tunnel([2, 1, 0]), 1)

    def test_fell_what_was_never_given_or_is_felled(self):
        web = settled(RING, RANGES[:4])
        for number in (1, 0, -1, 2, FAR, -FAR):
            self.assert_refused(web, "notunnel", {"number": number}, "fell", number)
        web.tunnel([0, 1, 2])
        for number in (0, -1, 2, FAR):
            self.assert_refused(web, "notunnel", {"number": number}, "fell", number)
        self.assertIsNone(web.fell(number=1))
        self.assert_refused(web, "notunnel", {"number": 1}, "fell", 1)
        web.settle()
        self.assert_refused(web, "notunnel", {"number": 1}, "fell", 1)


class Felled(WebTest):
    def web(self):
        web = settled(chain(4), RANGES[:4])
        web.tunnel([0, 1, 2, 3])
        web.settle()
        self.assertEqual(web.tunnels(), [(1, (0, 1, 2, 3), (1, 15))])
        return web

    def tunnel_rows(self, web):
        return pair_rows(web.rows(), ("tunnel", 1))

    def test_withdrawn_house_by_house(self):
        web = self.web()
        self.assert_done(web, "fell", 1)
        self.assertEqual(web.tunnels(), [])
        self.assertEqual(self.tunnel_rows(web), [(1, 15, (2, 25), "live"), (2, 25, (3, 35), "live"), (3, 35, None, "old")])
        self.assertEqual(web.waiting(), [(3, 2, 1)])
        self.assert_comes(web, (3, 2, ("void", 35)))
        self.assertEqual(self.tunnel_rows(web)[1:], [(2, 25, (3, 35), "dead"), (3, 35, None, "old")])
        self.assert_letters(web, 2, 3, ("back", 35))
        self.assert_letters(web, 2, 1, ("void", 25))
        self.assert_comes(web, (2, 3, ("back", 35)))
        self.assertEqual(self.tunnel_rows(web), [(1, 15, (2, 25), "live"), (2, 25, (3, 35), "dead")])
        self.assert_comes(web, (2, 1, ("void", 25)))
        self.assertEqual(self.tunnel_rows(web), [(1, 15, (2, 25), "dead"), (2, 25, (3, 35), "dead")])
        # It is ready until the first house hears of it.
        self.assertEqual(web.ready(), [(1, (0, 1, 2, 3), (1, 15))])
        self.assert_comes(web, (1, 0, ("void", 15)))
        self.assertEqual(web.ready(), [])
        self.assert_comes(web, (0, 1, ("back", 15)), (1, 2, ("back", 25)))
        self.assertEqual((self.tunnel_rows(web), web.waiting()), ([], []))

    def test_numbers_of_tunnels_are_never_given_again(self):
        web = self.web()
        web.fell(1)
        web.settle()
        self.assertEqual(web.tunnel([0, 1, 2]), 2)
        web.fell(2)
        web.cut(0, 1)
        self.assertEqual(web.tunnel([1, 2, 3]), 3)
        self.assertEqual(web.tunnels(), [(3, (1, 2, 3), None)])

    def test_felled_while_it_is_laid(self):
        # The void goes behind the lay, and undoes it house by house.
        web = settled(chain(3), RANGES[:3])
        web.tunnel([0, 1, 2])
        web.fell(1)
        self.assert_letters(web, 2, 1, ("lay", 1, 24, (0, 1, 2)), ("void", 24))
        web.deliver(2, 1)
        self.assertEqual(pair_rows(web.slips(1), ("tunnel", 1)), [(1, 14, (2, 24), "live")])
        web.deliver(1, 0)
        self.assertEqual((web.tunnels(), web.ready()), ([], [(1, (0, 1, 2), (1, 14))]))
        web.settle()
        self.assertEqual((web.ready(), len(web)), ([], 9))

    def test_at_a_house_that_is_joined_no_more_with_the_one_ahead(self):
        web = settled(chain(3), RANGES[:3])
        web.tunnel([0, 1, 2])
        web.cut(0, 1)
        self.assert_comes(web, (2, 1, ("lay", 1, 24, (0, 1, 2))))
        self.assertEqual((pair_rows(web.slips(1), ("tunnel", 1)), web.short()), ([], []))
        self.assertEqual(web.holders(2, 24), [1])
        self.assertEqual(web.letters(2, 1)[0], ("void", 24))
        web.settle()
        self.assertEqual(pair_rows(web.rows(), ("tunnel", 1)), [])

    def test_at_a_house_that_is_joined_again_with_the_one_ahead(self):
        web = settled(chain(3), RANGES[:3])
        web.tunnel([0, 1, 2])
        web.cut(0, 1)
        web.build(0, 1)
        web.deliver(2, 1)
        (row,) = pair_rows(web.slips(1), ("tunnel", 1))
        self.assertEqual((row[2], row[3], web.holders(1, row[1])), ((2, 24), "live", [0]))
        while not web.ready():
            web.deliver(1, 0)
        self.assertEqual((web.ready(), web.tunnels()), ([(1, (0, 1, 2), (1, row[1]))], []))
        web.settle()
        self.assertEqual((web.ready(), len(web)), ([], 9))

    def test_a_void_reaches_a_slip_that_nobody_holds_any_more(self):
        web = self.web()
        web.cut(0, 1)
        self.assertEqual(web.holders(1, 15), [])
        self.assertEqual(web.ready(), [])
        web.deliver(3, 2)
        while web.letters(2, 1)[0] != ("void", 25):
            web.deliver(2, 1)
        self.assertEqual(self.tunnel_rows(web)[0], (1, 15, (2, 25), "live"))
        web.deliver(2, 1)
        self.assertEqual([row[0] for row in self.tunnel_rows(web)], [2, 3])

    def test_others_stay(self):
        web = self.web()
        web.tunnel([0, 1, 2, 3])
        web.tunnel([3, 2, 1])
        web.settle()
        before = web.tunnels()
        web.fell(1)
        web.settle()
        self.assertEqual(web.tunnels(), before[1:])
        self.assertEqual([row[2] is None for row in web.tunnels()], [False, False])


class Waits(WebTest):
    def web(self, high=14):
        """A chain of four; house 1 has all its numbers taken."""
        return settled(chain(4), [(1, 9), (11, high), (21, 29), (31, 39)])

    def free_one(self, web, goal=3):
        """Let 1 have its slip for a goal back from both, which sets its number free."""
        number = web.live(1, goal)
        web.snap(2, 3)
        web.heed(1)
        deliver_all(web, 1, 2)
        deliver_all(web, 2, 1)
        deliver_all(web, 1, 0)
        self.assertEqual(web.holders(1, number), [0])
        deliver_all(web, 0, 1)

    def test_gone_on_with_as_soon_as_there_is_a_number(self):
        web = self.web()
        web.tunnel([0, 1, 2])
        web.deliver(2, 1)
        self.assertEqual((web.short(), web.tunnels()), ([1], [(1, (0, 1, 2), None)]))
        self.assertEqual(pair_rows(web.slips(1), ("tunnel", 1)), [])
        self.assertEqual(web.letters(1, 0), [])
        self.free_one(web)
        self.assertEqual(pair_rows(web.slips(1), ("tunnel", 1)), [(1, 14, (2, 25), "live")])
        self.assertEqual((web.holders(1, 14), web.short()), ([0], []))
        self.assert_letters(web, 1, 0, ("lay", 1, 14, (0, 1, 2)), ("back", 4))
        deliver_all(web, 1, 0)
        self.assertEqual(web.tunnels(), [(1, (0, 1, 2), (1, 14))])

    def test_several_by_the_order_in_which_their_letters_came(self):
        web = self.web()
        web.tunnel([2, 1, 0])
        web.tunnel([0, 1, 2])
        web.tunnel([0, 1, 2])
        web.deliver(2, 1)
        web.deliver(0, 1)
        web.deliver(2, 1)
        self.free_one(web)
        # There was a number for one alone, and the letter of the second came first.
        self.assertEqual(web.short(), [1])
        self.assertEqual([row[2] for row in web.slips(1)][3:], [("tunnel", 2)])
        for number, laid in ((2, 1), (1, 3)):
            web.fell(number)
            deliver_all(web, 2, 1)
            deliver_all(web, 0, 1)
            for other in (0, 2):
                deliver_all(web, 1, other)
                deliver_all(web, other, 1)
            self.assertEqual([row[2] for row in web.slips(1)][3:], [("tunnel", laid)])
        self.assertEqual(web.short(), [])

    def test_goals_come_ahead_of_them(self):
        # 1 lacks a number for 3 and one for the tunnel; the goal gets the first.
        web = settled(chain(3), [(1, 9), (11, 13), (21, 29), (31, 39)])
        web.tunnel([0, 1, 2])
        web.deliver(2, 1)
        web.build(2, 3)
        web.heed(1)
        web.heed(2)
        deliver_all(web, 3, 2)
        deliver_all(web, 2, 1)
        self.assertEqual((web.want(1, 3), web.live(1, 3), web.short()), (2, None, [1]))
        web.snap(0, 1)
        web.heed(1)
        web.mend(0, 1)
        deliver_all(web, 1, 2)
        deliver_all(web, 2, 1)
        deliver_all(web, 1, 0)
        deliver_all(web, 0, 1)
        self.assertEqual([row[2] for row in web.slips(1)], [("goal", 1), ("goal", 3), ("goal", 2)])
        self.assertEqual((web.tunnels(), web.short()), ([(1, (0, 1, 2), None)], [1]))

    def test_felled_while_it_waits(self):
        web = self.web()
        web.tunnel([0, 1, 2])
        web.tunnel([0, 1, 2])
        deliver_all(web, 2, 1)
        web.fell(1)
        # It still waits, until 1 hears of it.
        self.assertEqual(web.short(), [1])
        self.assert_comes(web, (2, 1, ("void", 25)))
        self.assert_letters(web, 1, 2, ("back", 25))
        self.assertEqual(web.short(), [1])
        web.fell(2)
        self.assert_comes(web, (2, 1, ("void", 26)))
        self.assertEqual(web.short(), [])
        self.free_one(web)
        self.assertEqual([row[2][0] for row in web.slips(1)], ["goal"] * 3)

    def test_a_felled_one_is_gone_on_with_too(self):
        web = self.web()
        web.tunnel([0, 1, 2])
        web.deliver(2, 1)
        number = web.live(1, 3)
        web.snap(2, 3)
        web.heed(1)
        deliver_all(web, 1, 2)
        deliver_all(web, 2, 1)
        web.fell(1)
        deliver_all(web, 1, 0)
        self.assertEqual((web.holders(1, number), web.letters(2, 1)), ([0], [("void", 25)]))
        self.assert_comes(web, (0, 1, ("back", number)))
        self.assertEqual(pair_rows(web.slips(1), ("tunnel", 1)), [(1, number, (2, 25), "live")])
        self.assertEqual((web.tunnels(), web.letters(1, 0)), ([], [("lay", 1, number, (0, 1, 2))]))
        self.assert_comes(web, (2, 1, ("void", 25)))
        self.assertEqual(pair_rows(web.slips(1), ("tunnel", 1)), [(1, number, (2, 25), "dead")])

    def test_a_void_of_another_number_lets_it_wait(self):
        web = self.web()
        web.tunnel([0, 1, 2])
        web.deliver(2, 1)
        web.snap(2, 3)
        web.heed(2)
        self.assertEqual(web.deliver(2, 1)[0], "void")
        self.assertEqual(web.short(), [1])


class Guard(WebTest):
    def test_along_the_way_round(self):
        for one, other, way in ((1, 2, (1, 0, 3, 2)), (2, 1, (2, 3, 0, 1)), (0, 3, (0, 1, 2, 3))):
            web = settled(RING, RANGES[:4])
            self.assertEqual(web.guard(one, other), 1)
            self.assertEqual(web.tunnels(), [(1, way, None)])
            self.assertEqual(web.guard(other=other, one=one), 2)
            web.settle()
            self.assertEqual([row[1] for row in web.tunnels()], [way, way])
            self.assertEqual([row[2][0] for row in web.tunnels()], [way[1], way[1]])

    def test_the_cheapest_way_and_the_least_next_house(self):
        web = Web(RANGES[:4])
        for one, other, price in ((0, 3, 1), (0, 1, 2), (1, 3, 3), (0, 2, 4), (2, 3, 1), (1, 2, 1)):
            web.build(one, other, price=price)
        web.guard(0, 3)
        self.assertEqual(web.tunnels(), [(1, (0, 1, 2, 3), None)])
        web.charge(1, 3, price=2)
        web.guard(0, 3)
        web.guard(3, 0)
        self.assertEqual([row[1] for row in web.tunnels()[1:]], [(0, 1, 2, 3), (3, 1, 0)])

    def test_over_whole_ties_alone(self):
        web = settled(RING + [(0, 2)], RANGES[:4])
        self.assertEqual(web.guard(0, 1), 1)
        web.snap(0, 2)
        self.assertEqual(web.guard(0, 1), 2)
        self.assertEqual([row[1] for row in web.tunnels()], [(0, 2, 1), (0, 3, 2, 1)])
        # The tie itself may be broken, and whatever the houses see does not matter.
        web.snap(0, 1)
        self.assertEqual(web.guard(1, 0), 3)
        self.assertEqual(web.tunnels()[2][1], (1, 2, 3, 0))
        web.snap(2, 3)
        self.assert_refused(web, "lone", {"lot": [0, 3]}, "guard", 0, 1)
        self.assert_refused(web, "lone", {"lot": [1, 2]}, "guard", 1, 0)
        self.assertEqual(len(web.tunnels()), 3)

    def test_lone_bears_a_list_of_its_own(self):
        web = settled(chain(4), RANGES[:4])
        self.assert_refused(web, "lone", {"lot": [0, 1]}, "guard", 1, 2)
        self.assert_refused(web, "lone", {"lot": [2, 3]}, "guard", 2, 1)
        self.assert_refused(web, "lone", {"lot": [3]}, "guard", 3, 2)

    def test_refusals_in_their_order(self):
        web = settled([(0, 1), (1, 2), (0, 2), (2, 3)], [(1, 9), (11, 14), (21, 29), (31, 39)])
        for strange in strange_houses(4):
            self.assert_refused(web, "nohouse", {"house": strange}, "guard", strange, strange)
            self.assert_refused(web, "nohouse", {"house": strange}, "guard", 0, strange)
        self.assert_refused(web, "notie", {"one": 0, "other": 3}, "guard", 0, 3)
        self.assert_refused(web, "notie", {"one": 1, "other": 1}, "guard", 1, 1)
        self.assert_refused(web, "short", {"house": 1}, "guard", 0, 1)
        self.assertEqual(web.guard(1, 0), 1)
        web.snap(1, 2)
        self.assert_refused(web, "lone", {"lot": [0, 2, 3]}, "guard", 0, 1)
