"""Frames: [19] to [21]."""

import unittest

from helper import strange_houses, told
from swapslip.errors import NoHouse
from swapslip.frames import send
from swapslip.web import Web

RANGES = [(10 * at + 1, 10 * at + 9) for at in range(8)]
RING = [(0, 1), (1, 2), (2, 3), (0, 3)]


def settled(pairs, many=4):
    web = Web(RANGES[:many])
    for one, other in pairs:
        web.build(one, other)
    web.settle()
    return web


def deliver_all(web, one, other):
    for turn in range(len(web.letters(one, other))):
        web.deliver(one, other)


class FrameTest(unittest.TestCase):
    def assert_sent(self, web, house, goal, end, *steps):
        ahead, twin = told(web), web.twin()
        sent = send(web, house, goal)
        self.assertEqual(sent, (end, list(steps)))
        self.assertIs(type(sent), tuple)
        self.assertIs(type(sent[1]), list)
        self.assertEqual({type(step) for step in sent[1]} | {type(step[1]) for step in sent[1]}, {tuple})
        # Questions change nothing.
        sent[1].append("strange")
        self.assertEqual(told(web), ahead)
        self.assertTrue(web == twin)
        self.assertEqual(send(web, house, goal), (end, list(steps)))


class Sent(FrameTest):
    def test_from_the_goal(self):
        for web in (Web(RANGES), settled(RING)):
            for house in range(web.many()):
                self.assert_sent(web, house, house, ("came", house), (house, ()))

    def test_without_a_slip(self):
        web = Web(RANGES[:3])
        self.assert_sent(web, 0, 2, ("slip", 0), (0, ()))
        web.build(0, 2)
        self.assert_sent(web, 2, 0, ("slip", 2), (2, ()))

    def test_along_the_slips_way(self):
        web = settled([(0, 1), (1, 2), (2, 3)])
        numbers = [web.live(house, 3) for house in range(4)]
        self.assert_sent(
            web, 0, 3, ("came", 3), (0, (numbers[0],)), (1, (numbers[1],)), (2, (numbers[2],)), (3, (31,))
        )
        self.assert_sent(web, 2, 3, ("came", 3), (2, (numbers[2],)), (3, (31,)))

    def test_old_slips_lead_on(self):
        # 1 has given up its slip for 2, but 0 has not heard of it.
        web = settled([(0, 1), (1, 2)], 3)
        numbers = [web.live(house, 2) for house in range(3)]
        web.snap(1, 2)
        web.heed(1)
        web.mend(1, 2)
        self.assert_sent(web, 1, 2, ("slip", 1), (1, ()))
        self.assert_sent(web, 0, 2, ("came", 2), (0, (numbers[0],)), (1, (numbers[1],)), (2, (21,)))

    def test_no_house(self):
        web = settled(RING)
        for strange in strange_houses(4):
            for things in ((strange, 0), (0, strange), (strange, strange), (strange, -5)):
                with self.assertRaises(NoHouse) as held:
                    send(web, *things)
                self.assertEqual(held.exception.house, strange)

    def test_things_by_their_names(self):
        self.assertEqual(send(goal=1, house=1, web=settled(RING)), (("came", 1), [(1, ())]))


class Lost(FrameTest):
    def test_at_a_dead_slip(self):
        web = settled([(0, 1), (1, 2), (2, 3)])
        numbers = [web.live(house, 3) for house in range(3)]
        web.cut(2, 3)
        self.assert_sent(web, 0, 3, ("dead", 2), (0, (numbers[0],)), (1, (numbers[1],)), (2, (numbers[2],)))
        self.assert_sent(web, 2, 3, ("slip", 2), (2, ()))
        web.deliver(2, 1)
        self.assert_sent(web, 0, 3, ("dead", 1), (0, (numbers[0],)), (1, (numbers[1],)))

    def test_a_dead_one_is_seen_ahead_of_its_broken_tie(self):
        # The slip of 1 for 3 is dead, and its tie to 2 is broken.
        web = settled([(0, 1), (1, 2), (2, 3)])
        numbers = [web.live(house, 3) for house in range(3)]
        web.cut(2, 3)
        web.deliver(2, 1)
        web.snap(1, 2)
        self.assert_sent(web, 0, 3, ("dead", 1), (0, (numbers[0],)), (1, (numbers[1],)))

    def test_at_a_broken_tie(self):
        web = settled([(0, 1), (1, 2)], 3)
        numbers = [web.live(house, 2) for house in range(2)]
        web.snap(1, 2)
        self.assert_sent(web, 0, 2, ("broken", 1, 2), (0, (numbers[0],)), (1, (numbers[1],)))
        self.assert_sent(web, 1, 2, ("broken", 1, 2), (1, (numbers[1],)))
        self.assert_sent(web, 2, 0, ("broken", 2, 1), (2, (web.live(2, 0),)))


class PassedBy(FrameTest):
    def web(self, guards=((1, 2),)):
        """A ring of four whose tie from 1 to 2 is broken behind all being settled and guarded."""
        web = settled(RING)
        for one, other in guards:
            web.guard(one, other)
        web.settle()
        web.snap(1, 2)
        return web

    def test_through_a_tunnel(self):
        web = self.web()
        first, mid, last = web.live(0, 2), web.live(1, 2), web.live(2, 2)
        self.assertEqual((web.way(0, 2), last, web.tunnels()), ((0, 1, 2), 21, [(1, (1, 0, 3, 2), (0, 5))]))
        rows = {row[0]: row[1] for row in web.rows() if row[2] == ("tunnel", 1)}
        self.assertEqual(rows, {0: 5, 2: 25, 3: 35})
        self.assert_sent(
            web, 0, 2, ("came", 2),
            (0, (first,)), (1, (mid,)), (0, (21, 5)), (3, (21, 35)), (2, (21, 25)),
        )
        self.assert_sent(web, 1, 2, ("came", 2), (1, (mid,)), (0, (21, 5)), (3, (21, 35)), (2, (21, 25)))

    def test_and_on_behind_it(self):
        web = settled(RING + [(2, 4)], 5)
        web.guard(1, 2)
        web.settle()
        web.snap(1, 2)
        below = web.live(2, 4)
        self.assertEqual(web.way(1, 4), (1, 2, 4))
        lead = web.tunnels()[0][2][1]
        rows = {row[0]: row[1] for row in web.rows() if row[2] == ("tunnel", 1)}
        self.assertEqual(rows[0], lead)
        self.assert_sent(
            web, 1, 4, ("came", 4),
            (1, (web.live(1, 4),)), (0, (below, rows[0])), (3, (below, rows[3])), (2, (below, rows[2])), (4, (41,)),
        )

    def test_two_broken_ties_one_behind_the_other(self):
        web = Web(RANGES[:5])
        for one, other, price in ((0, 1, 1), (1, 2, 1), (0, 3, 9), (3, 1, 9), (1, 4, 9), (4, 2, 9)):
            web.build(one, other, price=price)
        web.settle()
        web.tunnel([0, 3, 1])
        web.tunnel([1, 4, 2])
        web.settle()
        web.snap(0, 1)
        web.snap(1, 2)
        first = {row[0]: row[1] for row in web.rows() if row[2] == ("tunnel", 1)}
        second = {row[0]: row[1] for row in web.rows() if row[2] == ("tunnel", 2)}
        mid = web.live(1, 2)
        self.assert_sent(
            web, 0, 2, ("came", 2), (0, (web.live(0, 2),)), (3, (mid, first[3])), (1, (mid, first[1])),
            (4, (21, second[4])), (2, (21, second[2])),
        )

    def test_not_from_the_other_side_nor_of_another_tie(self):
        web = self.web([(2, 1), (0, 1)])
        self.assertEqual([row[2] is None for row in web.tunnels()], [False, False])
        self.assert_sent(web, 1, 2, ("broken", 1, 2), (1, (web.live(1, 2),)))
        self.assertEqual(send(web, 2, 1)[0], ("came", 1))

    def test_not_while_it_is_laid(self):
        web = settled(RING)
        web.guard(1, 2)
        web.snap(1, 2)
        web.deliver(2, 3)
        web.deliver(3, 0)
        self.assertEqual(send(web, 1, 2)[0], ("broken", 1, 2))
        web.deliver(0, 1)
        self.assertEqual(send(web, 1, 2)[0], ("came", 2))

    def test_the_least_ready_one(self):
        web = settled(RING + [(0, 2)])
        self.assertEqual(web.tunnel([1, 0, 3, 2]), 1)
        self.assertEqual(web.tunnel([1, 0, 2]), 2)
        web.snap(1, 2)
        # The second is ready first.
        deliver_all(web, 2, 0)
        deliver_all(web, 0, 1)
        self.assertEqual([row[2] is None for row in web.tunnels()], [True, False])
        self.assertEqual([step[0] for step in send(web, 1, 2)[1]], [1, 0, 2])
        for pair in ((2, 3), (3, 0), (0, 1)):
            deliver_all(web, *pair)
        self.assertEqual([step[0] for step in send(web, 1, 2)[1]], [1, 0, 3, 2])

    def test_felled_but_ready(self):
        web = self.web([(1, 2), (1, 2)])
        self.assertEqual([row[2] for row in web.tunnels()], [(0, 5), (0, 6)])
        web.fell(1)
        # It comes ahead of the greater one that is not felled.
        self.assertEqual([row[0] for row in web.tunnels()], [2])
        self.assertEqual((send(web, 1, 2)[0], send(web, 1, 2)[1][1]), (("came", 2), (0, (21, 5))))
        web.fell(2)
        self.assertEqual((send(web, 1, 2)[0], send(web, 1, 2)[1][1]), (("came", 2), (0, (21, 5))))
        for pair in ((2, 3), (3, 0), (0, 1)):
            web.deliver(*pair)
        self.assertEqual(web.ready(), [(2, (1, 0, 3, 2), (0, 6))])
        self.assertEqual((send(web, 1, 2)[0], send(web, 1, 2)[1][1]), (("came", 2), (0, (21, 6))))

    def test_dead_in_the_tunnel(self):
        web = self.web()
        web.fell(1)
        web.deliver(2, 3)
        mid = web.live(1, 2)
        self.assert_sent(web, 1, 2, ("dead", 3), (1, (mid,)), (0, (21, 5)), (3, (21, 35)))
        web.deliver(3, 0)
        self.assert_sent(web, 1, 2, ("dead", 0), (1, (mid,)), (0, (21, 5)))
        web.deliver(0, 1)
        self.assert_sent(web, 1, 2, ("broken", 1, 2), (1, (mid,)))

    def test_dead_below_behind_the_tunnel(self):
        web = settled(RING + [(2, 4)], 5)
        web.guard(1, 2)
        web.settle()
        web.snap(1, 2)
        web.cut(2, 4)
        end, steps = send(web, 1, 4)
        self.assertEqual((end, [step[0] for step in steps]), (("dead", 2), [1, 0, 3, 2]))

    def test_its_first_tie_is_broken_too(self):
        web = self.web()
        web.snap(0, 1)
        self.assert_sent(web, 1, 2, ("broken", 1, 2), (1, (web.live(1, 2),)))

    def test_no_further_tunnel_is_looked_for(self):
        # The tunnel 1 - 4 - 2 would do, but 1 - 0 - 3 - 2 is the lesser one.
        web = settled(RING + [(1, 4), (4, 2)], 5)
        web.tunnel([1, 0, 3, 2])
        web.tunnel([1, 4, 2])
        web.settle()
        web.snap(1, 2)
        self.assertEqual([step[0] for step in send(web, 1, 2)[1]], [1, 0, 3, 2])
        web.snap(0, 1)
        self.assert_sent(web, 1, 2, ("broken", 1, 2), (1, (web.live(1, 2),)))
        web.fell(1)
        self.assertEqual(send(web, 1, 2)[0], ("broken", 1, 2))
        web.mend(0, 1)
        self.assertEqual([step[0] for step in send(web, 1, 2)[1]], [1, 0, 3, 2])
        for pair in ((2, 3), (3, 0), (0, 1)):
            deliver_all(web, *pair)
        self.assertEqual([step[0] for step in send(web, 1, 2)[1]], [1, 4, 2])

    def test_a_tie_of_the_tunnel_is_broken_behind_its_first(self):
        # Two numbers are borne already, so the tunnel round that tie is not used.
        web = settled(RING + [(0, 4), (4, 3)], 5)
        web.tunnel([1, 0, 3, 2])
        web.guard(0, 3)
        web.settle()
        web.snap(1, 2)
        web.snap(0, 3)
        self.assertEqual([row[1] for row in web.tunnels()], [(1, 0, 3, 2), (0, 4, 3)])
        mid, lead = web.live(1, 2), web.tunnels()[0][2]
        self.assert_sent(web, 1, 2, ("broken", 0, 3), (1, (mid,)), (0, (21, lead[1])))
        self.assertEqual([step[0] for step in send(web, 0, 3)[1]], [0, 4, 3])
