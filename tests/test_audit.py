"""Rows of slips looked over: [25]."""

import copy
import random
import unittest

import helper
from helper import FAULTS, done, fault_by_the_words
from swapslip.looks import audit
from swapslip.web import Web

RANGES = [(1, 9), (11, 19), (21, 29)]

# A row of 0 over 1 to 2, and a tunnel from 1 to 2, with all that they lead to.
ROWS = [
    (0, 1, ("goal", 0), None, (0,), 1, "live"),
    (1, 11, ("goal", 1), None, (1,), 2, "live"),
    (2, 21, ("goal", 2), None, (2,), 3, "live"),
    (1, 12, ("goal", 2), (2, 21), (1, 2), 4, "live"),
    (0, 2, ("goal", 2), (1, 12), (0, 1, 2), 5, "old"),
    (2, 22, ("tunnel", 1), None, (2,), 6, "live"),
    (1, 13, ("tunnel", 1), (2, 22), (1, 2), 7, "live"),
    (0, 3, ("goal", 1), (1, 11), (0, 1), 8, "live"),
]
HOUSE, NUMBER, WHAT, OUT, WAY, AGE, MOOD = range(7)


def bent(row, **changes):
    """A row with some of its things changed."""
    names = "house number what out way age mood".split()
    return tuple(changes.get(name, thing) for name, thing in zip(names, row))


def rows_with(at, **changes):
    return ROWS[:at] + [bent(ROWS[at], **changes)] + ROWS[at + 1:]


class AuditTest(unittest.TestCase):
    def assert_fault(self, rows, fault, ranges=RANGES):
        ahead = copy.deepcopy((ranges, rows))
        self.assertEqual(audit(ranges, rows), fault, rows)
        self.assertEqual((ranges, rows), ahead)
        self.assertEqual(fault_by_the_words(ranges, rows), fault, rows)

    def assert_words(self, rows, at, *words):
        """The row has just these faults, and none stands ahead of it: the first one is told."""
        self.assertEqual([helper.row_words(RANGES, rows, each) for each in range(at)], [set()] * at)
        self.assertEqual(helper.row_words(RANGES, rows, at), set(words), rows)
        self.assert_fault(rows, (words[0],) + rows[at][:2])


class NoFault(AuditTest):
    def test_good_rows(self):
        self.assert_fault(ROWS, None)
        self.assert_fault(ROWS[::-1], None)
        self.assert_fault([], None)
        self.assert_fault([], None, ranges=[])

    def test_the_beginning_of_a_web(self):
        for many in range(1, 9):
            web = Web([(5, 9)] * many)
            self.assert_fault(web.rows(), None, web.ranges())

    def test_old_ones_may_be_led_to_and_dead_ones_too(self):
        for mood in ("old", "dead"):
            self.assert_fault(rows_with(3, mood=mood), None)

    def test_the_bounds_of_a_range(self):
        self.assert_fault(ROWS, None, ranges=[(1, 3), (11, 13), (21, 22)])
        self.assert_fault(ROWS, ("range", 0, 1), ranges=[(2, 3), (11, 13), (21, 22)])
        self.assert_fault(ROWS, ("range", 1, 13), ranges=[(1, 3), (11, 12), (21, 22)])

    def test_ways_as_lists(self):
        self.assert_fault([bent(row, way=list(row[WAY])) for row in ROWS], None)
        for at in range(len(ROWS)):
            self.assert_fault(rows_with(at, way=list(ROWS[at][WAY])), None)

    def test_a_tunnels_way_ends_where_it_will(self):
        self.assert_fault([(2, 22, ("tunnel", 0), None, (2,), 1, "live")], None)
        self.assert_fault([(2, 22, ("tunnel", 99), None, (2,), 1, "live")], None)

    def test_things_by_their_names(self):
        self.assertIsNone(audit(rows=ROWS, ranges=RANGES))
        self.assertEqual(audit(rows=ROWS + ROWS[:1], ranges=RANGES), ("twice", 0, 1))

    def test_what_is_told_is_a_tuple(self):
        told = audit(RANGES, ROWS + ROWS[:1])
        self.assertIs(type(told), tuple)

    def test_behind_drawn_deeds(self):
        rng = random.Random(70)
        looked = 0
        for turn in range(40):
            many = rng.randint(1, 8)
            web = Web(helper.drawn_ranges(rng, many, turn % 2))
            for deed in helper.first_deeds(rng, many):
                done(web, deed)
            for step in range(60):
                laid = max([number for number, way, out in web.tunnels()], default=0)
                done(web, helper.drawn_deed(rng, helper.Seen(web, laid)))
                self.assertIsNone(audit(web.ranges(), web.rows()))
                looked += len(web)
        self.assertGreater(looked, 40000)


class EachWord(AuditTest):
    def test_twice(self):
        for row in ROWS:
            self.assert_words(ROWS + [row], len(ROWS), "twice")
        # In another mood and for something else, but under the same number.
        self.assert_words(ROWS + [(1, 12, ("goal", 1), None, (1,), 9, "dead")], 8, "twice")
        self.assert_words(ROWS + [(1, 12, ("goal", 1), None, (1,), 9, "old")], 8, "twice")

    def test_one_number_at_two_houses_is_not_twice(self):
        ranges = [(1, 9)] * 2
        rows = [(0, 1, ("goal", 0), None, (0,), 1, "live"), (1, 1, ("goal", 1), None, (1,), 2, "live")]
        self.assert_fault(rows, None, ranges)

    def test_range(self):
        for number in (0, 10, 11, -1, 10 ** 39, -10 ** 39):
            self.assert_words(rows_with(0, number=number), 0, "range")
        for number in (10, 20, 1, 21):
            self.assert_words(rows_with(7, house=1, number=number, way=(1,), out=None), 7, "range")

    def test_no_such_house(self):
        for house in (3, 4, -1, -2, -3, 10 ** 39, -10 ** 39):
            for number in (1, 11, 21, 5):
                for mood in ("live", "old", "dead"):
                    row = (house, number, ("goal", house), None, (house,), 9, mood)
                    self.assert_words(ROWS + [row], 8, "range")
        self.assert_fault(ROWS, ("range", 0, 1), ranges=[])
        self.assert_fault(ROWS, ("range", 2, 21), ranges=RANGES[:2])

    def test_way(self):
        self.assert_words(rows_with(0, way=(1, 0), mood="dead"), 0, "way")
        self.assert_words(rows_with(0, way=(1,)), 0, "way")
        # It begins with the house, but ends elsewhere than at the goal.
        self.assert_words(rows_with(0, what=("goal", 1)), 0, "way")
        self.assert_words(rows_with(0, what=("goal", 2), way=(0, 1), mood="dead"), 0, "way")
        # A tunnel's way begins with the house too.
        self.assert_words(rows_with(5, way=(1,)), 5, "way")
        self.assert_words(rows_with(5, way=[0]), 5, "way")

    def test_an_empty_way(self):
        for way in ((), []):
            for at in (0, 5):
                self.assert_words(rows_with(at, way=way), at, "way")
                self.assert_words(rows_with(at, way=way, mood="dead"), at, "way")
            self.assert_fault(rows_with(3, way=way), ("way", 1, 12))
            self.assert_fault(rows_with(6, way=way), ("way", 1, 13))

    def test_end(self):
        for mood in ("live", "old"):
            # Out None with a longer way.
            self.assert_words(rows_with(7, out=None, mood=mood), 7, "end")
            self.assert_words(rows_with(6, out=None, mood=mood), 6, "end")
            self.assert_fault(rows_with(4, out=None, mood=mood), ("end", 0, 2))
            # The other way about.
            self.assert_fault(rows_with(0, out=(1, 11), mood=mood), ("end", 0, 1))
            self.assert_fault(rows_with(0, out=(1, 19), mood=mood), ("end", 0, 1))
            self.assert_fault(rows_with(5, out=(1, 13), mood=mood), ("end", 2, 22))

    def test_gone(self):
        for out in ((1, 14), (2, 12), (0, 12), (1, 0), (-1, 12), (3, 12), (9, 9), (1, -12)):
            for mood in ("live", "old"):
                self.assert_words(rows_with(4, out=out, mood=mood), 4, "gone")
        self.assert_fault(ROWS[:2] + ROWS[3:], ("gone", 1, 12))
        self.assert_fault(ROWS[:5] + ROWS[6:], ("gone", 1, 13))

    def test_other(self):
        # For another goal, for a tunnel instead of a goal, for another tunnel.
        row = (1, 14, ("goal", 2), (2, 23), (1, 2), 10, "live")
        for what in (("tunnel", 2), ("tunnel", 1)):
            self.assert_words(ROWS + [(2, 23, what, None, (2,), 9, "live"), row], 9, "other")
        self.assert_words(rows_with(6, what=("tunnel", 2)), 6, "other")
        self.assert_words(rows_with(6, what=("goal", 2)), 6, "other")
        self.assert_words(rows_with(7, what=("tunnel", 1)), 7, "other")
        rows = ROWS + [(1, 14, ("goal", 0), (0, 9), (1, 0), 10, "old"), (0, 9, ("goal", 1), None, (0,), 9, "live")]
        self.assert_fault(rows, ("other", 1, 14))

    def test_rest(self):
        self.assert_words(rows_with(4, way=(0, 2)), 4, "rest")
        self.assert_words(rows_with(4, way=(0, 1, 1, 2)), 4, "rest")
        self.assert_words(rows_with(4, way=(0, 2, 1, 2)), 4, "rest")
        self.assert_words(rows_with(6, way=(1, 0)), 6, "rest")
        self.assert_words(rows_with(6, way=[1, 0, 2]), 6, "rest")

    def test_age(self):
        for age in (4, 3, 1, 0, -5):
            self.assert_words(rows_with(4, age=age), 4, "age")
        for age in (6, 5):
            self.assert_words(rows_with(6, age=age), 6, "age")
        self.assert_fault(rows_with(0, age=10 ** 39), None)
        # A ring would have to lead to an elder one somewhere.
        rows = [
            (0, 1, ("tunnel", 1), (1, 11), (0, 1), 1, "live"), (1, 11, ("tunnel", 1), (0, 1), (1,), 2, "live"),
        ]
        self.assert_fault(rows, ("age", 0, 1))


class DeadOnes(AuditTest):
    def test_lead_where_they_will(self):
        for out in (None, (1, 14), (1, 11), (1, 13), (9, 9), (0, 2)):
            for age in (1, 5, 0):
                self.assert_fault(rows_with(4, out=out, age=age, mood="dead"), None)
        self.assert_fault(rows_with(0, out=(1, 11), mood="dead"), None)
        self.assert_fault(rows_with(4, way=(0, 2), mood="dead"), None)

    def test_stand_twice_in_range_and_have_a_way(self):
        dead = bent(ROWS[4], mood="dead")
        self.assert_fault(ROWS + [dead], ("twice", 0, 2))
        self.assert_fault(rows_with(4, mood="dead", number=10), ("range", 0, 10))
        self.assert_fault(rows_with(4, mood="dead", way=(1, 2)), ("way", 0, 2))
        self.assert_fault(rows_with(4, mood="dead", way=(0, 1)), ("way", 0, 2))
        self.assert_fault(rows_with(4, mood="dead", way=()), ("way", 0, 2))


class SeveralFaults(AuditTest):
    def test_two_in_one_row_the_first_in_order(self):
        for words, row in (
            ("range way", (0, 10, ("goal", 0), None, (1, 0), 9, "dead")),
            ("range end", (0, 10, ("tunnel", 3), None, (0, 1), 9, "live")),
            ("range gone", (0, 10, ("goal", 2), (1, 19), (0, 1, 2), 9, "live")),
            ("range other", (0, 10, ("tunnel", 3), (1, 12), (0, 1, 2), 9, "live")),
            ("range rest", (0, 10, ("goal", 2), (1, 12), (0, 2), 9, "live")),
            ("range age", (0, 10, ("goal", 2), (1, 12), (0, 1, 2), 4, "live")),
            ("way end", (0, 9, ("goal", 0), None, (1, 0), 9, "live")),
            ("way gone", (0, 9, ("goal", 2), (1, 19), (1, 2), 9, "live")),
            ("way other", (0, 9, ("tunnel", 3), (1, 12), (1, 1, 2), 9, "live")),
            ("way rest", (0, 9, ("goal", 2), (1, 12), (1, 2), 9, "live")),
            ("way age", (0, 9, ("goal", 2), (1, 12), (1, 1, 2), 4, "live")),
            ("end gone", (0, 9, ("goal", 0), (1, 19), (0,), 9, "live")),
            ("gone", (0, 9, ("goal", 2), (1, 19), (0, 1, 2), 4, "live")),
            ("other rest", (0, 9, ("goal", 2), (1, 11), (0, 1, 2), 9, "live")),
            ("other age", (0, 9, ("tunnel", 3), (1, 12), (0, 1, 2), 4, "live")),
            ("rest age", (0, 9, ("goal", 2), (1, 12), (0, 2), 4, "live")),
        ):
            self.assert_words(ROWS + [row], len(ROWS), *words.split())

    def test_twice_in_no_range(self):
        # The earlier one is in no range either, and comes first.
        row = (0, 10, ("goal", 0), None, (0,), 9, "live")
        self.assert_fault(ROWS + [row, row], ("range", 0, 10))
        self.assertEqual(helper.row_words(RANGES, ROWS + [row, row], len(ROWS) + 1), {"twice", "range"})

    def test_twice_comes_ahead_of_all_else(self):
        for changes in (
            dict(way=()), dict(out=None), dict(out=(1, 19)), dict(what=("tunnel", 9)), dict(way=(0, 2)), dict(age=0),
        ):
            self.assert_fault(ROWS + [bent(ROWS[4], **changes)], ("twice", 0, 2))

    def test_end_comes_ahead_of_what_is_there(self):
        # Out is not None, the way has one house: what stands at out is for something else, longer and younger.
        row = (0, 9, ("goal", 0), (1, 12), (0,), 1, "live")
        self.assert_words(ROWS + [row], len(ROWS), "end", "other", "rest", "age")

    def test_all_that_can_be_wrong_with_what_is_there(self):
        row = (0, 9, ("tunnel", 4), (1, 12), (0, 7), 1, "live")
        self.assert_words(ROWS + [row], len(ROWS), "other", "rest", "age")

    def test_row_by_row(self):
        # An earlier row with a late word comes ahead of a later row with an early word.
        early = {at: rows_with(at, age=0)[at] for at in (3, 4, 6, 7)}
        for at, row in early.items():
            rows = ROWS[:at] + [row] + ROWS[at + 1:]
            self.assert_fault(rows + [ROWS[0]], ("age",) + row[:2])
            self.assert_fault(rows + [bent(ROWS[0], number=77)], ("age",) + row[:2])
            self.assert_fault([bent(ROWS[0], number=77)] + rows, ("range", 0, 77))
            self.assert_fault(rows[:at] + [ROWS[0]] + rows[at:], ("twice", 0, 1))

    def test_of_several_at_out_the_first(self):
        # The rows at (2, 23) stand behind the one that leads there, so it is looked at first.
        row = (1, 14, ("goal", 2), (2, 23), (1, 2), 10, "live")
        good = (2, 23, ("goal", 2), None, (2,), 9, "live")
        bad = (2, 23, ("tunnel", 2), None, (2,), 9, "live")
        self.assert_fault(ROWS + [row, good, bad], ("twice", 2, 23))
        self.assert_fault(ROWS + [row, bad, good], ("other", 1, 14))
        self.assert_fault(ROWS + [row, bent(good, age=10), good], ("age", 1, 14))
        self.assert_fault(ROWS + [row, good, bent(good, age=10)], ("twice", 2, 23))


class DrawnBends(AuditTest):
    def bend(self, rng, rows):
        """Rows with one thing changed, moved, doubled or left out."""
        rows = list(rows)
        at = rng.randrange(len(rows))
        row = rows[at]
        other = rng.choice(rows)
        places = [each[:2] for each in rows]
        changes = rng.choice([
            dict(number=other[NUMBER]), dict(number=rng.choice([0, 1, 21, 20, 10 ** 39])), dict(house=other[HOUSE]),
            dict(house=rng.choice([-1, 8, 9])), dict(what=other[WHAT]), dict(what=("tunnel", 1)), dict(out=other[OUT]),
            dict(out=rng.choice(places)), dict(out=None), dict(way=other[WAY]), dict(way=row[WAY][1:]),
            dict(way=tuple(row[WAY]) + (1,)), dict(way=row[WAY][:1]), dict(way=list(row[WAY])), dict(age=other[AGE]),
            dict(age=rng.choice([0, 1, 10 ** 39])), dict(mood=other[MOOD]), dict(mood="dead"),
        ])
        sort = rng.random()
        if sort < 0.7:
            rows[at] = bent(row, **changes)
        elif sort < 0.8:
            del rows[at]
        elif sort < 0.9:
            rows.insert(rng.randint(0, len(rows)), bent(row, **changes))
        else:
            rng.shuffle(rows)
        return rows

    def test_beside_the_words(self):
        rng = random.Random(71)
        seen = {word: 0 for word in FAULTS + [None, "several"]}
        for turn in range(30):
            many = rng.randint(2, 8)
            web = Web(helper.drawn_ranges(rng, many, turn % 2))
            for deed in helper.first_deeds(rng, many):
                done(web, deed)
            for step in range(rng.randint(0, 40)):
                done(web, helper.drawn_deed(rng, helper.Seen(web, 3)))
            for bends in [1, 1, 1, 2, 2, 3] * 12:
                rows = web.rows()
                for each in range(bends):
                    rows = self.bend(rng, rows) if rows else rows
                told = audit(web.ranges(), rows)
                self.assertEqual(told, fault_by_the_words(web.ranges(), rows))
                seen[told[0] if told else None] += 1
                words = [helper.row_words(web.ranges(), rows, at) for at in range(len(rows))]
                seen["several"] += sum(map(len, words)) > 1
        self.assertEqual([word for word in seen if seen[word] < 10], [], seen)
