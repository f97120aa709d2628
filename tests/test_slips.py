"""Views, letters and slips: [8], [10] to [14]."""

from helper import WebTest, told
from swapslip.web import Web

RANGES = [(1, 9), (11, 19), (21, 29), (31, 39)]


def chain(ranges=tuple(RANGES[:3])):
    """0 - 1 - 2, nothing heeded and nothing delivered."""
    web = Web(list(ranges))
    web.build(0, 1)
    web.build(1, 2, price=2)
    return web


def empty_row(web, one, other):
    return [web.deliver(one, other) for turn in range(len(web.letters(one, other)))]


class Views(WebTest):
    def test_what_was_whole_when_it_last_heeded(self):
        web = chain()
        self.assertEqual(web.view(0), [])
        web.snap(1, 2)
        self.assert_done(web, "heed", 0)
        self.assertEqual(web.view(0), [(0, 1, 1)])
        web.mend(1, 2)
        web.charge(1, 2, price=7)
        self.assert_done(web, "heed", 1)
        self.assertEqual((web.view(0), web.view(1), web.view(2)), ([(0, 1, 1)], [(0, 1, 1), (1, 2, 7)], []))
        web.charge(0, 1, price=3)
        web.cut(1, 2)
        self.assertEqual((web.view(0), web.view(1)), ([(0, 1, 1)], [(0, 1, 1), (1, 2, 7)]))
        web.heed(house=1)
        self.assertEqual(web.view(1), [(0, 1, 3)])

    def test_wants_by_its_own_view(self):
        # A ring of four, so that there are always two ways about.
        web = Web(RANGES)
        for one, other in ((0, 1), (1, 2), (2, 3), (0, 3)):
            web.build(one, other)
        self.assertEqual([web.want(0, goal) for goal in range(4)], [None] * 4)
        web.heed(0)
        self.assertEqual([web.want(0, goal) for goal in range(4)], [None, 1, 1, 3])
        self.assertEqual([web.want(2, goal) for goal in range(4)], [None] * 4)
        web.charge(0, 1, price=2)
        web.heed(2)
        self.assertEqual([web.want(2, goal) for goal in range(4)], [3, 1, None, 3])
        self.assertEqual([web.want(0, goal) for goal in range(4)], [None, 1, 1, 3])
        web.heed(0)
        self.assertEqual([web.want(0, goal) for goal in range(4)], [None, 1, 3, 3])
        web.snap(0, 3)
        web.snap(0, 1)
        web.heed(0)
        self.assertEqual([web.want(0, goal) for goal in range(4)], [None] * 4)
        # The view is of the whole web: what is broken next to another house counts too.
        web.heed(2)
        self.assertEqual([web.want(2, goal) for goal in range(4)], [None, 1, None, 3])

    def test_questions_and_heeding_twice_change_nothing(self):
        web = chain()
        web.settle()
        twin = web.twin()
        told(web)
        for house in range(3):
            web.heed(house)
        self.assertTrue(web == twin)


class Told(WebTest):
    def test_a_letter_heard_ahead_of_heeding(self):
        web = chain()
        self.assertEqual(web.deliver(0, 1), ("tell", 0, 1, (0,)))
        self.assertEqual(web.heard(1), [(0, 0, 1, (0,))])
        self.assertEqual((web.live(1, 0), web.made(), web.short()), (None, 3, []))
        # It holds the slip from the sending on, not from the coming on.
        self.assertEqual(web.holders(0, 1), [1])
        web.heed(1)
        self.assertEqual(web.slips(1)[1:], [(1, 12, ("goal", 0), (0, 1), (1, 0), 4, "live")])
        self.assertEqual((web.live(1, 0), web.way(1, 0), web.made(), len(web)), (12, (1, 0), 4, 4))
        self.assertEqual(web.holders(1, 12), [0, 2])
        self.assert_letters(web, 1, 0, ("tell", 1, 11, (1,)), ("tell", 0, 12, (1, 0)))
        self.assert_letters(web, 1, 2, ("tell", 1, 11, (1,)), ("tell", 0, 12, (1, 0)))
        # It wants 2 for the goal 2, but has not heard from it.
        self.assertEqual((web.want(1, 2), web.live(1, 2), web.short()), (2, None, []))

    def test_a_letter_heard_behind_heeding(self):
        web = chain()
        web.heed(1)
        self.assertEqual((web.made(), web.short()), (3, []))
        self.assertEqual(web.deliver(2, 1), ("tell", 2, 21, (2,)))
        self.assertEqual(web.slips(1)[1:], [(1, 12, ("goal", 2), (2, 21), (1, 2), 4, "live")])
        self.assertEqual(web.holders(1, 12), [0, 2])
        self.assert_letters(web, 1, 0, ("tell", 1, 11, (1,)), ("tell", 2, 12, (1, 2)))

    def test_ways_grow_house_by_house(self):
        web = chain()
        web.heed(1)
        web.deliver(2, 1)
        web.deliver(0, 1)
        self.assert_comes(
            web, (1, 0, ("tell", 1, 11, (1,))), (1, 0, ("tell", 2, 12, (1, 2))), (1, 0, ("tell", 0, 13, (1, 0)))
        )
        self.assertEqual(web.heard(0), [(1, 0, 13, (1, 0)), (1, 1, 11, (1,)), (1, 2, 12, (1, 2))])
        self.assertEqual(web.made(), 5)
        web.heed(0)
        self.assertEqual(web.slips(0)[1:], [
            (0, 2, ("goal", 1), (1, 11), (0, 1), 6, "live"),
            (0, 3, ("goal", 2), (1, 12), (0, 1, 2), 7, "live"),
        ])
        self.assert_letters(web, 0, 1, ("tell", 1, 2, (0, 1)), ("tell", 2, 3, (0, 1, 2)))
        # House 1 hears of itself and of what came by itself, and takes neither.
        self.assertEqual(len(empty_row(web, 0, 1)), 2)
        self.assertEqual(web.heard(1), [(0, 0, 1, (0,)), (0, 1, 2, (0, 1)), (0, 2, 3, (0, 1, 2)), (2, 2, 21, (2,))])
        self.assertEqual((web.made(), web.live(1, 1), web.live(1, 2)), (7, 11, 12))

    def test_letters_of_a_row_in_order_and_rows_apart(self):
        web = chain()
        web.heed(1)
        web.deliver(2, 1)
        self.assertEqual(web.waiting(), [(0, 1, 1), (1, 0, 2), (1, 2, 2)])
        self.assertEqual(web.deliver(1, 2), ("tell", 1, 11, (1,)))
        self.assertEqual(web.waiting(), [(0, 1, 1), (1, 0, 2), (1, 2, 1)])
        self.assertEqual(web.deliver(1, 2), ("tell", 2, 12, (1, 2)))
        self.assertEqual(web.waiting(), [(0, 1, 1), (1, 0, 2)])

    def test_nothing_is_made_that_came_by_the_house_itself(self):
        # 0 goes to 2 by 1; then 1 wants to go to 2 by 0, which still tells the way by 1.
        web = Web(RANGES[:3])
        for one, other in ((0, 1), (1, 2), (0, 2)):
            web.build(one, other)
        web.snap(0, 2)
        web.settle()
        self.assertEqual(web.way(0, 2), (0, 1, 2))
        web.snap(1, 2)
        web.mend(0, 2)
        elder = web.live(1, 2)
        web.heed(1)
        self.assertEqual((web.want(1, 2), web.live(1, 2), web.way(1, 2)), (0, elder, (1, 2)))
        self.assertIn((0, 2, web.live(0, 2), (0, 1, 2)), web.heard(1))
        self.assertEqual((web.short(), web.letters(1, 0)), ([], []))
        # As soon as 0 goes there by itself and has told so, 1 follows.
        web.settle()
        self.assertEqual((web.way(0, 2), web.way(1, 2)), ((0, 2), (1, 0, 2)))

    def test_to_broken_ties_too(self):
        web = chain()
        web.snap(1, 2)
        web.heed(1)
        web.deliver(0, 1)
        self.assertEqual(web.holders(1, 12), [0, 2])
        self.assert_letters(web, 1, 2, ("tell", 1, 11, (1,)), ("tell", 0, 12, (1, 0)))


class Withdrawn(WebTest):
    def test_no_way_any_more(self):
        web = chain()
        web.settle()
        number = web.live(1, 2)
        web.snap(1, 2)
        self.assertEqual(web.live(1, 2), number)
        web.heed(1)
        self.assertEqual([row[6] for row in web.slips(1) if row[1] == number], ["old"])
        self.assertEqual((web.live(1, 2), web.way(1, 2), web.holders(1, number)), (None, None, [0, 2]))
        self.assert_letters(web, 1, 0, ("void", number))
        self.assert_letters(web, 1, 2, ("void", number))
        # It still knows what it heard, and a second look finds nothing left to withdraw.
        self.assertIn((2, 2, 21, (2,)), web.heard(1))
        web.heed(1)
        self.assert_letters(web, 1, 0, ("void", number))

    def test_void_and_back(self):
        web = chain()
        web.settle()
        mid, first = web.live(1, 2), web.live(0, 2)
        web.snap(1, 2)
        web.heed(1)
        self.assert_comes(web, (1, 0, ("void", mid)))
        self.assertNotIn(2, [goal for other, goal, number, way in web.heard(0)])
        self.assertEqual(len(web.heard(0)), 2)
        self.assertEqual([row[6] for row in web.slips(0) if row[1] == first], ["dead"])
        self.assertEqual((web.live(0, 2), web.holders(0, first)), (None, [1]))
        # 0 still sees the tie and wants 1, but has not heard from it any more.
        self.assertEqual((web.want(0, 2), web.short()), (1, []))
        self.assert_letters(web, 0, 1, ("back", mid), ("void", first))
        self.assert_comes(web, (0, 1, ("back", mid)))
        self.assertEqual(web.holders(1, mid), [2])
        self.assert_comes(web, (0, 1, ("void", first)))
        self.assert_letters(web, 1, 0, ("back", first))
        self.assertNotIn((0, 2), [row[:2] for row in web.heard(1)])
        self.assert_comes(web, (1, 0, ("back", first)))
        # Behind the last one that gave it back the number is free, and is given anew.
        self.assert_asked_refused(web, "nottaken", {"number": first}, "holders", 0, first)
        self.assertEqual(web.holders(1, mid), [2])
        web.mend(1, 2)
        self.assert_comes(web, (1, 2, ("void", mid)), (2, 1, ("back", mid)))
        self.assert_asked_refused(web, "nottaken", {"number": mid}, "holders", 1, mid)
        self.assertEqual(len(web), 7)
        made = web.made()
        web.heed(1)
        self.assertEqual((web.live(1, 2), web.slips(1)[-1][5], web.made()), (mid, made + 1, made + 1))

    def test_an_old_slip_dies_without_letters(self):
        # 1 gives up its slip for 2, and 0 gave up its own ahead of the letter.
        web = chain()
        web.settle()
        mid, first = web.live(1, 2), web.live(0, 2)
        web.snap(1, 2)
        web.heed(0)
        self.assert_letters(web, 0, 1, ("void", first))
        web.heed(1)
        web.deliver(1, 0)
        self.assertEqual([row[6] for row in web.slips(0) if row[1] == first], ["dead"])
        self.assert_letters(web, 0, 1, ("void", first), ("back", mid))
        self.assertEqual(web.holders(0, first), [1])

    def test_a_dead_slip_stays_dead(self):
        web = chain()
        web.settle()
        mid, first = web.live(1, 2), web.live(0, 2)
        web.snap(1, 2)
        web.heed(1)
        web.deliver(1, 0)
        web.heed(0)
        self.assertEqual([row[6] for row in web.slips(0) if row[1] == first], ["dead"])
        self.assert_letters(web, 0, 1, ("back", mid), ("void", first))

    def test_the_elder_one_goes_behind_the_new_one(self):
        # 0 goes to 2 straight away, then by 1.
        web = Web(RANGES[:3])
        for one, other in ((0, 1), (1, 2), (0, 2)):
            web.build(one, other)
        web.settle()
        elder = web.live(0, 2)
        self.assertEqual(web.way(0, 2), (0, 2))
        web.charge(0, 2, price=9)
        made = web.made()
        web.heed(0)
        new = web.live(0, 2)
        self.assertEqual((web.way(0, 2), new, web.made()), ((0, 1, 2), 4, made + 1))
        self.assertEqual([row[6] for row in web.slips(0) if row[1] == elder], ["old"])
        for other in (1, 2):
            self.assert_letters(web, 0, other, ("tell", 2, new, (0, 1, 2)), ("void", elder))
        self.assertEqual((web.holders(0, new), web.holders(0, elder)), ([1, 2], [1, 2]))
        self.assertEqual(len(web), 10)
        # The new one takes the place of what was heard, so void of the elder one takes nothing away.
        web.deliver(0, 1)
        self.assertIn((0, 2, new, (0, 1, 2)), web.heard(1))
        web.deliver(0, 1)
        self.assertIn((0, 2, new, (0, 1, 2)), web.heard(1))
        web.deliver(1, 0)
        self.assertEqual(web.holders(0, elder), [2])

    def test_an_elder_way_is_kept_until_the_wanted_one_is_heard(self):
        # The same, but 1 has not yet told 0 its slip for 2.
        web = Web(RANGES[:3])
        web.build(0, 2)
        web.settle()
        elder = web.live(0, 2)
        web.build(0, 1)
        web.build(1, 2)
        web.charge(0, 2, price=9)
        web.heed(0)
        self.assertEqual((web.want(0, 2), web.live(0, 2), web.short()), (1, elder, []))
        web.heed(1)
        web.deliver(1, 0)
        empty_row(web, 2, 1)
        self.assertEqual(web.live(0, 2), elder)
        self.assertIn(("tell", 2, web.live(1, 2), (1, 2)), empty_row(web, 1, 0))
        self.assertEqual(web.way(0, 2), (0, 1, 2))

    def test_goals_for_which_one_died_are_tried_at_once(self):
        # 0 has heard of 3 from both 1 and 2. It goes by 1, wants 2 by now, but was short.
        web = Web([(1, 4), (11, 19), (21, 29), (31, 39)])
        for one, other in ((0, 1), (0, 2), (1, 3), (2, 3)):
            web.build(one, other)
        web.settle()
        elder = web.live(0, 3)
        self.assertEqual(web.way(0, 3), (0, 1, 3))
        web.snap(1, 3)
        web.heed(0)
        self.assertEqual((web.want(0, 3), web.live(0, 3), web.short()), (2, elder, [0]))
        mid = web.live(1, 3)
        web.cut(1, 3)
        self.assertEqual(web.deliver(1, 0), ("void", mid))
        # Its number is not free yet: it is dead, and 0 is short until both gave it back.
        self.assertEqual((web.live(0, 3), web.short(), web.holders(0, elder)), (None, [0], [1, 2]))
        self.assertEqual(web.letters(0, 2), [("void", elder)])
        web.deliver(0, 2)
        self.assertEqual(web.deliver(2, 0), ("back", elder))
        self.assertEqual(web.short(), [0])
        empty_row(web, 0, 1)
        self.assertEqual(web.deliver(1, 0), ("back", elder))
        self.assertEqual((web.live(0, 3), web.way(0, 3), web.short()), (elder, (0, 2, 3), []))

    def test_what_died_is_made_anew_by_the_way_that_is_wanted_then(self):
        web = Web(RANGES)
        for one, other in ((0, 1), (0, 2), (1, 3), (2, 3)):
            web.build(one, other)
        web.settle()
        elder = web.live(0, 3)
        web.cut(1, 3)
        made = web.made()
        empty_row(web, 1, 0)
        # By its own view 0 still wants 1, so it has none; behind heeding it goes by 2.
        self.assertEqual((web.live(0, 3), web.want(0, 3)), (None, 1))
        web.heed(0)
        self.assertEqual((web.way(0, 3), web.live(0, 3), web.made()), ((0, 2, 3), 5, made + 1))
        self.assertEqual([row[6] for row in web.slips(0) if row[1] == elder], ["dead"])


class Numbers(WebTest):
    def test_short_and_made_as_soon_as_a_number_is_free(self):
        web = chain([(1, 9), (11, 12), (21, 29)])
        web.heed(1)
        web.deliver(0, 1)
        self.assertEqual((web.live(1, 0), web.short()), (12, []))
        web.deliver(2, 1)
        self.assertEqual((web.live(1, 2), web.short(), web.made()), (None, [1], 4))
        self.assertIn((2, 2, 21, (2,)), web.heard(1))
        web.snap(0, 1)
        web.heed(1)
        self.assertEqual((web.live(1, 0), web.short()), (None, [1]))
        empty_row(web, 1, 2)
        self.assertEqual(web.deliver(2, 1), ("back", 12))
        self.assertEqual((web.holders(1, 12), web.short()), ([0], [1]))
        web.mend(0, 1)
        empty_row(web, 1, 0)
        self.assertEqual(web.deliver(0, 1), ("back", 12))
        self.assertEqual(web.slips(1)[1:], [(1, 12, ("goal", 2), (2, 21), (1, 2), 5, "live")])
        self.assertEqual(web.short(), [])
        self.assert_letters(web, 1, 0, ("tell", 2, 12, (1, 2)))

    def test_goals_rising_for_the_one_number_that_came_free(self):
        # 1 has a number for one of 0, 2 and 3; 3 gets it, then 0, then 2.
        web = Web([(1, 9), (11, 12), (21, 29), (31, 39)])
        for other in (3, 2, 0):
            web.build(1, other)
        web.heed(1)
        web.deliver(3, 1)
        web.deliver(2, 1)
        web.deliver(0, 1)
        self.assertEqual(([web.live(1, goal) for goal in range(4)], web.short()), ([None, 11, None, 12], [1]))
        for lost, live in ((3, [12, 11, None, None]), (0, [None, 11, 12, None])):
            web.snap(1, lost)
            web.heed(1)
            web.mend(1, lost)
            for other in (0, 2, 3):
                empty_row(web, 1, other)
                empty_row(web, other, 1)
            self.assertEqual([web.live(1, goal) for goal in range(4)], live)
        # By its last view it has no way to 0, but one to 3.
        self.assertEqual((web.want(1, 0), web.want(1, 3), web.short()), (None, 3, [1]))

    def test_a_short_house_keeps_what_it_has(self):
        web = Web([(1, 3), (11, 19), (21, 29)])
        for one, other in ((0, 1), (1, 2), (0, 2)):
            web.build(one, other)
        web.settle()
        rows = web.slips(0)
        web.charge(0, 2, price=9)
        web.heed(0)
        self.assertEqual((web.want(0, 2), web.slips(0), web.short()), (1, rows, [0]))
        self.assertEqual((web.letters(0, 1), web.letters(0, 2)), ([], []))
        # Where it wants again what it has, it is short no more.
        web.charge(0, 2, price=1)
        web.heed(0)
        self.assertEqual((web.slips(0), web.short()), (rows, []))

    def test_one_number_is_for_the_house_itself(self):
        web = Web([(1, 1), (11, 11)])
        web.build(0, 1)
        self.assertEqual((web.settle(), web.short(), len(web)), (2, [0, 1], 2))
        web.cut(0, 1)
        self.assertEqual(web.short(), [])

    def test_no_number_is_lacked_where_nothing_is_wanted_or_heard(self):
        web = Web([(1, 1), (11, 11), (21, 29)])
        web.build(0, 1)
        self.assertEqual(web.short(), [])
        web.heed(0)
        self.assertEqual(web.short(), [])
        web.deliver(1, 0)
        self.assertEqual(web.short(), [0])
        web.deliver(0, 1)
        self.assertEqual(web.short(), [0])
        web.heed(1)
        self.assertEqual(web.short(), [0, 1])
        web.snap(0, 1)
        web.heed(0)
        self.assertEqual(web.short(), [1])

    def test_the_least_free_number(self):
        # 0 gives up its slip for 1, and takes that number again ahead of greater free ones.
        web = Web(RANGES)
        for other in (1, 2, 3):
            web.build(0, other)
        web.settle()
        self.assertEqual([web.live(0, goal) for goal in range(4)], [1, 2, 3, 4])
        web.snap(0, 1)
        web.heed(0)
        web.mend(0, 1)
        for other in (1, 2, 3):
            empty_row(web, 0, other)
            empty_row(web, other, 0)
        self.assertEqual([row[1] for row in web.slips(0)], [1, 3, 4])
        web.heed(0)
        self.assertEqual([web.live(0, goal) for goal in range(4)], [1, 2, 3, 4])

    def test_a_slip_that_nobody_holds_is_gone_at_once(self):
        web = Web([(1, 2), (11, 19)])
        web.build(0, 1)
        web.settle()
        web.cut(0, 1)
        self.assertEqual([row[1] for row in web.slips(0)], [1])
        self.assertEqual([row[1] for row in web.slips(1)], [11])
