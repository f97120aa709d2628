"""Twins and ==: [29], as far as it speaks of webs."""

import random

import helper
from helper import WebTest, done, told
from swapslip.slips import Slip
from swapslip.tunnels import Tunnel
from swapslip.web import Web

RANGES = [(1, 9), (11, 19), (21, 29), (31, 39)]


def rich():
    """A web that has some of everything: old and dead slips, letters, tunnels of all moods, what waits."""
    web = Web([(1, 9), (11, 16), (21, 29), (31, 39)])
    for one, other in ((0, 1), (1, 2), (2, 3), (0, 3)):
        web.build(one, other)
    web.settle()
    web.guard(0, 3)
    web.tunnel([2, 1, 0])
    web.settle()
    web.fell(2)
    web.tunnel([0, 1, 2])
    web.tunnel([2, 1, 0])
    for one, other in ((2, 1), (0, 1)):
        for turn in range(len(web.letters(one, other))):
            web.deliver(one, other)
    web.tunnel([1, 2, 3])
    web.fell(5)
    web.charge(0, 3, price=9)
    web.heed(0)
    web.cut(2, 3)
    return web


class Equal(WebTest):
    def assert_unlike(self, one, other):
        self.assertFalse(one == other)
        self.assertFalse(other == one)
        self.assertTrue(one != other)

    def assert_alike(self, one, other):
        self.assertTrue(one == other)
        self.assertTrue(other == one)
        self.assertFalse(one != other)

    def test_the_rich_web_has_some_of_everything(self):
        web = rich()
        self.assertEqual({row[6] for row in web.rows()}, {"live", "old", "dead"})
        self.assertEqual({row[2][0] for row in web.rows()}, {"goal", "tunnel"})
        self.assertTrue(web.short() and web.waiting() and web.tunnels() and web.ready())
        self.assertTrue(any(len(home.queue) > 1 for home in web.homes))
        self.assertTrue(any(bore.felled and bore.lead for bore in web.bores.values()))
        self.assertTrue(any(bore.felled and not bore.lead for bore in web.bores.values()))

    def test_alike(self):
        self.assert_alike(Web(RANGES), Web(list(RANGES)))
        self.assert_alike(rich(), rich())
        web = rich()
        self.assert_alike(web, web)

    def test_to_nothing_else(self):
        class Anything:
            def __eq__(self, other):
                return True

        web = Web(RANGES)
        for other in (None, 0, 4, "", repr(web), RANGES, web.rows(), web.ranges(), {}, (), object(), Web, Anything()):
            self.assertFalse(web == other)
            self.assertTrue(web != other)
        self.assertIs(web == 3, False)
        self.assertIs(web == web.twin(), True)

    def test_ranges(self):
        web = Web(RANGES)
        self.assert_unlike(web, Web([(1, 8)] + RANGES[1:]))
        self.assert_unlike(web, Web([(2, 9)] + RANGES[1:]))
        self.assert_unlike(web, Web(RANGES[:3] + [(31, 38)]))
        self.assert_unlike(web, Web(RANGES[:3]))

    def test_ties(self):
        web = rich()
        for deed in (("charge", 0, 1, 2), ("snap", 0, 1)):
            twin = web.twin()
            done(twin, deed)
            self.assert_unlike(web, twin)
        other = rich()
        other.charge(0, 1, price=2)
        other.charge(0, 1, price=1)
        self.assert_alike(web, other)

    def test_views(self):
        web = Web(RANGES)
        web.build(0, 1)
        twin = web.twin()
        twin.heed(0)
        self.assertEqual((web.rows(), web.letters(0, 1)), (twin.rows(), twin.letters(0, 1)))
        self.assert_unlike(web, twin)
        web.heed(1)
        self.assert_unlike(web, twin)
        web.heed(0)
        twin.heed(1)
        self.assert_alike(web, twin)

    def test_ages(self):
        # The same slips stand, but were made in another order.
        webs = []
        for rows in ([(0, 1), (1, 0)], [(1, 0), (0, 1)]):
            web = Web(RANGES[:2])
            web.build(0, 1)
            web.heed(0)
            web.heed(1)
            for one, other in rows:
                web.deliver(one, other)
            web.settle()
            webs.append(web)
        self.assertEqual([row[:5] for row in webs[0].rows()], [row[:5] for row in webs[1].rows()])
        self.assertEqual((webs[0].heard(0), webs[0].made()), (webs[1].heard(0), webs[1].made()))
        self.assert_unlike(*webs)

    def test_letters_taken_or_not(self):
        web = rich()
        for one, other, count in web.waiting():
            twin = web.twin()
            twin.deliver(one, other)
            self.assert_unlike(web, twin)

    def test_the_order_in_which_letters_of_what_waits_came(self):
        webs = []
        for first, second in ((0, 2), (2, 0)):
            web = Web([(1, 9), (11, 13), (21, 29)])
            web.build(0, 1)
            web.build(1, 2)
            web.settle()
            web.tunnel([2, 1, 0])
            web.tunnel([0, 1, 2])
            web.deliver(first, 1)
            web.deliver(second, 1)
            webs.append(web)
        self.assertEqual(told(webs[0]), told(webs[1]))
        self.assert_unlike(*webs)

    def test_felled_ones(self):
        web, other = rich(), rich()
        web.fell(3)
        self.assert_unlike(web, other)
        other.fell(3)
        self.assert_alike(web, other)

    def test_each_thing_by_itself(self):
        """Each thing that [29] lists, changed behind the web's back where no deed changes it alone."""

        def changed(change):
            web = rich()
            change(web)
            self.assert_unlike(web, rich())
            self.assert_unlike(rich(), web)

        changed(lambda web: web.bonds.update({(0, 1): (2, True)}))
        changed(lambda web: web.bonds.update({(0, 1): (1, False)}))
        changed(lambda web: web.bonds.update({(2, 3): (1, True)}))
        changed(lambda web: web.homes[2].sight.pop())
        changed(lambda web: setattr(web.homes[0].stands[1], "mood", "old"))
        changed(lambda web: setattr(web.homes[0].stands[2], "out", (1, 12)))
        changed(lambda web: setattr(web.homes[0].stands[2], "path", (0, 3, 1)))
        changed(lambda web: setattr(web.homes[0].stands[2], "age", 99))
        changed(lambda web: setattr(web.homes[0].stands[2], "what", ("tunnel", 1)))
        changed(lambda web: web.homes[0].stands[2].told.clear())
        changed(lambda web: web.homes[3].stands.update({39: Slip(39, ("goal", 1), None, (3,), 98)}))
        changed(lambda web: web.homes[0].news.popitem())
        changed(lambda web: web.homes[0].news.update({(1, 1): (12, (1,))}))
        changed(lambda web: web.homes[0].news.update({(1, 1): (11, (1, 1))}))
        changed(lambda web: web.homes[1].queue.pop())
        changed(lambda web: web.homes[1].queue.reverse())
        changed(lambda web: web.mail[(1, 0)].pop())
        changed(lambda web: web.mail[(2, 1)].reverse())
        changed(lambda web: web.mail[(1, 0)].append(("void", 11)))
        changed(lambda web: setattr(web.bores[3], "lead", (1, 15)))
        changed(lambda web: setattr(web.bores[3], "path", (0, 3, 2)))
        changed(lambda web: setattr(web.bores[3], "felled", True))
        changed(lambda web: setattr(web.bores[2], "lead", None))
        changed(lambda web: setattr(web, "ever", 99))
        # The next tunnel's number, though the last one is felled and not ready.
        changed(lambda web: web.bores.update({6: web.bores[5].twin()}))

    def test_of_felled_ones_that_are_not_ready_nothing_counts(self):
        web = rich()
        self.assertTrue(web.bores[5].felled and web.bores[5].lead is None)
        web.bores[5] = Tunnel((0, 1, 2))
        web.bores[5].felled = True
        self.assert_alike(web, rich())


class Twins(WebTest):
    def test_has_all(self):
        for web in (Web(RANGES), rich()):
            twin = web.twin()
            self.assertIs(type(twin), Web)
            self.assertTrue(twin == web)
            self.assertEqual(told(twin), told(web))
            self.assertEqual((repr(twin), len(twin)), (repr(web), len(web)))

    def test_goes_its_own_way(self):
        deeds = [
            ("build", 1, 3, 2), ("cut", 0, 1), ("snap", 0, 1), ("charge", 0, 1, 5), ("heed", 1), ("deliver", 1, 0),
            ("settle",), ("tunnel", [0, 3]), ("tunnel", [3, 0, 1]), ("fell", 3), ("fell", 4), ("guard", 0, 1),
        ]
        for deed in deeds:
            web = rich()
            twin, before = web.twin(), told(web)
            done(twin, deed)
            self.assertEqual(told(web), before, deed)
            self.assertTrue(web == rich(), deed)
            twin, before = web.twin(), told(web)
            done(web, deed)
            self.assertEqual(told(twin), before, deed)
            self.assertTrue(twin == rich(), deed)

    def test_of_a_twin(self):
        web = rich()
        further = web.twin().twin()
        web.settle()
        self.assertTrue(further == rich())

    def test_the_same_deeds_keep_them_alike(self):
        rng = random.Random(61)
        for turn in range(16):
            many = rng.randint(2, 8)
            ranges = helper.drawn_ranges(rng, many, turn % 2)
            web, slow = Web(ranges), helper.SlowWeb(ranges)
            for deed in helper.first_deeds(rng, many):
                done(web, deed)
                slow.do(deed)
            twin = web.twin()
            for step in range(60):
                deed = helper.drawn_deed(rng, slow)
                slow.do(deed)
                elder = web.twin()
                came_to = done(web, deed)
                if came_to[0] == "refused":
                    self.assertTrue(web == elder)
                self.assertEqual(done(twin, deed), came_to)
                self.assertTrue(web == twin)
                if step % 10 == 0:
                    twin = twin.twin()
