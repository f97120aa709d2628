import inspect
import unittest

from swapslip import errors
from swapslip.errors import Lone, NoHouse, NoTie, NoWay, SlipError, Stopped

BARE = ["BadRange", "BadPrice", "BadWay", "BadLetter", "NoNumber", "HasTie", "Whole", "Broken", "NoLetter", "Nothing"]

# Each field with a thing of the kind that it bears.
FIELDS = {
    "TooMany": {"bound": 8},
    "NoHouse": {"house": 10 ** 39},
    "NoTie": {"one": 5, "other": 2},
    "NotTaken": {"number": -3},
    "NoTunnel": {"number": 7},
    "Short": {"house": 1},
    "NoWay": {"lot": [0, 2]},
    "Lone": {"lot": [1]},
    "BadDeed": {"said": "dig"},
    "BadPage": {"row": 0},
    "Stopped": {"at": 4, "kind": "nohouse"},
}


def refusal(name):
    return getattr(errors, name)


class TheClasses(unittest.TestCase):
    def test_just_these_classes_are_there(self):
        names = [name for name, item in vars(errors).items() if inspect.isclass(item)]
        self.assertEqual(sorted(names), sorted(["SlipError"] + BARE + list(FIELDS)))

    def test_slip_error_stands_straight_under_value_error(self):
        self.assertEqual(SlipError.__bases__, (ValueError,))

    def test_each_refusal_stands_straight_under_slip_error(self):
        for name in BARE + list(FIELDS):
            self.assertEqual(refusal(name).__bases__, (SlipError,), name)

    def test_no_refusal_is_caught_as_another(self):
        names = BARE + list(FIELDS)
        for name in names:
            under = [other for other in names if issubclass(refusal(name), refusal(other))]
            self.assertEqual(under, [name])


class TheWords(unittest.TestCase):
    def test_bare_refusals_are_made_of_nothing(self):
        for name in BARE:
            self.assertEqual(refusal(name)().word, name.lower())

    def test_refusals_with_fields_bear_the_word_too(self):
        for name, fields in FIELDS.items():
            self.assertEqual(refusal(name)(*fields.values()).word, name.lower())

    def test_slip_error_itself_has_its_word(self):
        self.assertEqual(SlipError().word, "sliperror")

    def test_the_word_is_set_on_each_object(self):
        for name in BARE:
            self.assertIn("word", vars(refusal(name)()))


class TheFields(unittest.TestCase):
    def assert_bears(self, error, name, fields):
        self.assertEqual(vars(error), dict(fields, word=name.lower()))

    def test_made_with_the_fields_in_the_told_order(self):
        for name, fields in FIELDS.items():
            self.assert_bears(refusal(name)(*fields.values()), name, fields)

    def test_made_with_the_fields_by_their_names(self):
        for name, fields in FIELDS.items():
            self.assert_bears(refusal(name)(**fields), name, fields)

    def test_bare_refusals_bear_only_the_word(self):
        for name in BARE:
            self.assert_bears(refusal(name)(), name, {})

    def test_a_tie_is_told_as_it_was_handed_in(self):
        for one, other in ((5, 2), (2, 5), (3, 3)):
            error = NoTie(one, other)
            self.assertEqual((error.one, error.other), (one, other))

    def test_a_field_is_not_the_word(self):
        error = Stopped(0, "short")
        self.assertEqual((error.word, error.at, error.kind), ("stopped", 0, "short"))

    def test_a_missing_field_makes_no_refusal(self):
        for name in FIELDS:
            self.assertRaises(TypeError, refusal(name))

    def test_raised_and_caught_by_the_common_names(self):
        for caught in (ValueError, SlipError, NoHouse):
            with self.assertRaises(caught) as held:
                raise NoHouse(9)
            self.assertEqual(held.exception.house, 9)


class TheLots(unittest.TestCase):
    def test_a_later_change_of_the_list_is_not_seen(self):
        for made in (NoWay, Lone):
            lot = [0, 1, 4]
            error = made(lot)
            lot.append(5)
            lot[0] = 9
            self.assertEqual(error.lot, [0, 1, 4])

    def test_a_change_of_the_lot_does_not_reach_the_list(self):
        for made in (NoWay, Lone):
            lot = [0, 1]
            made(lot).lot.clear()
            self.assertEqual(lot, [0, 1])

    def test_the_list_is_kept_nowhere_else(self):
        for made in (NoWay, Lone):
            lot = [0, 1]
            error = made(lot)
            kept = list(error.args) + list(vars(error).values())
            self.assertFalse([item for item in kept if item is lot])

    def test_the_lot_is_a_list(self):
        for made in (NoWay, Lone):
            self.assertIs(type(made([2]).lot), list)
