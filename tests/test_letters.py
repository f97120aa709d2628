import itertools
import random
import unittest

from swapslip.errors import BadLetter
from swapslip.letters import letter_text, read_letter

NUMBERS = [0, 1, 9, 10, 99, 100, 999, 1000, 9999, 10000, 99999, 100000, 123456, 999999]

WAYS = [
    (0,), (7,), (2, 3), (0, 0), (3, 2, 1), (0, 1, 2, 3), (7, 6, 5, 4, 3), (1, 2, 3, 4, 5, 6), (6, 5, 4, 3, 2, 1, 0),
    (0, 1, 2, 3, 4, 5, 6, 7), (999999, 0, 100000), tuple(range(30)),
]


def letters():
    told = [(word, number) for word in ("void", "back") for number in NUMBERS]
    for word, number, way in itertools.product(("tell", "lay"), NUMBERS, WAYS):
        told += [(word, number, 17, way), (word, 3, number, way)]
    return told


class Written(unittest.TestCase):
    def test_each_word(self):
        self.assertEqual(letter_text(("tell", 3, 17, (2, 3))), "tell 3 17 2.3")
        self.assertEqual(letter_text(("void", 17)), "void 17")
        self.assertEqual(letter_text(("back", 4)), "back 4")
        self.assertEqual(letter_text(("lay", 1, 40, (0, 2, 1))), "lay 1 40 0.2.1")

    def test_a_way_of_one_house(self):
        self.assertEqual(letter_text(("tell", 0, 1, (0,))), "tell 0 1 0")

    def test_a_way_handed_in_as_a_list(self):
        letter = ("lay", 1, 40, [0, 2, 1])
        self.assertEqual(letter_text(letter), "lay 1 40 0.2.1")
        self.assertEqual(letter, ("lay", 1, 40, [0, 2, 1]))

    def test_things_by_their_names(self):
        self.assertEqual(letter_text(letter=("void", 0)), "void 0")
        self.assertEqual(read_letter(text="void 0"), ("void", 0))


class Read(unittest.TestCase):
    def assert_same(self, letter, told):
        self.assertEqual(told, letter)
        self.assertIs(type(told), tuple)
        self.assertEqual([type(thing) for thing in told], [type(thing) for thing in letter])
        for thing in told:
            if type(thing) is tuple:
                self.assertEqual({type(house) for house in thing}, {int})

    def test_each_word(self):
        self.assert_same(("tell", 3, 17, (2, 3)), read_letter("tell 3 17 2.3"))
        self.assert_same(("void", 17), read_letter("void 17"))
        self.assert_same(("back", 4), read_letter("back 4"))
        self.assert_same(("lay", 1, 40, (0, 2, 1)), read_letter("lay 1 40 0.2.1"))

    def test_what_nobody_would_send(self):
        self.assert_same(("tell", 999999, 0, (5, 5, 999999)), read_letter("tell 999999 0 5.5.999999"))
        self.assert_same(("lay", 0, 0, (0,)), read_letter("lay 0 0 0"))

    def test_back_and_forth(self):
        for letter in letters():
            self.assert_same(letter, read_letter(letter_text(letter)))

    def test_forth_and_back_of_drawn_texts(self):
        # Near misses of good texts: what is read at all is written just so.
        rng = random.Random(5)
        signs = "0123456789 .telvoidbacky-+\n"
        read = 0
        for turn in range(20000):
            text = letter_text(rng.choice([("tell", 3, 17, (2, 3)), ("void", 170), ("back", 0), ("lay", 1, 4, (0, 2, 1))]))
            at = rng.randint(0, len(text))
            text = text[:at] + rng.choice([rng.choice(signs), ""]) + text[at + rng.randint(0, 1):]
            try:
                letter = read_letter(text)
            except BadLetter:
                continue
            read += 1
            self.assertEqual(letter_text(letter), text)
        self.assertGreater(read, 1000)


class NotRead(unittest.TestCase):
    def assert_bad(self, *texts):
        for text in texts:
            with self.assertRaises(BadLetter, msg=repr(text)) as held:
                read_letter(text)
            self.assertEqual(held.exception.word, "badletter")

    def test_empty_or_of_an_unknown_word(self):
        self.assert_bad("", " ", "\n", ".", "0", "17", "send 17", "Void 17", "VOID 17", "voids 17", "voi 17", "void17")
        self.assert_bad("tells 3 17 2.3", "laid 1 40 0.2.1", "number 17", "way 2.3")

    def test_a_word_out(self):
        self.assert_bad("tell", "void", "back", "lay", "tell 3", "tell 3 17", "tell 3 2.3", "lay 1", "lay 1 40")
        self.assert_bad("3 17 2.3", "1 40 0.2.1", "17 ")

    def test_a_word_twice_or_too_many(self):
        self.assert_bad("void void 17", "void 17 17", "back 4 4", "tell tell 3 17 2.3", "tell 3 3 17 2.3")
        self.assert_bad("tell 3 17 17 2.3", "tell 3 17 2.3 2.3", "lay 1 40 0.2.1 1", "void 17 void 17", "back 4 2.3")

    def test_blanks(self):
        self.assert_bad("void  17", "tell  3 17 2.3", "tell 3  17 2.3", "tell 3 17  2.3", " void 17", "void 17 ")
        self.assert_bad("void ", "tell 3 17 ", " tell 3 17 2.3", "tell 3 17 2.3 ", "tell 3 17 2 .3", "tell 3 17 2. 3")
        self.assert_bad("void 1 7", "v oid 17", "back  ", "void\t17")

    def test_line_feeds(self):
        self.assert_bad("void 17\n", "\nvoid 17", "void\n17", "void 1\n7", "tell 3 17 2.3\n", "tell 3 17 2\n.3")
        self.assert_bad("void 17\nvoid 18", "tell 3\n17 2.3", "tell 3 17\n 2.3")

    def test_numbers(self):
        bad = "01 00 007 000000 0000001 1000000 1234567 10000000 +1 -1 -0 --1 1_0 1e3 1.0 0x1 x 1x x1 1, ~ ' . .1 1.".split()
        for word in bad:
            self.assert_bad(f"void {word}", f"back {word}", f"tell {word} 17 2.3", f"tell 3 {word} 2.3")
            self.assert_bad(f"lay {word} 40 0.2.1", f"lay 1 {word} 0.2.1")
            if word != "1.0":
                self.assert_bad(f"tell 3 17 {word}", f"tell 3 17 {word}.2", f"lay 1 40 0.{word}", f"lay 1 40 0.{word}.1")

    def test_far_numbers(self):
        for number in (10 ** 39, 10 ** 6, 2 * 10 ** 6):
            self.assert_bad(f"void {number}", f"tell 3 {number} 2.3", f"tell 3 17 2.{number}", f"void -{number}")

    def test_ways(self):
        self.assert_bad("tell 3 17 .", "tell 3 17 ..", "tell 3 17 2.", "tell 3 17 .2", "tell 3 17 2..3", "tell 3 17 2,3")
        self.assert_bad("lay 1 40 2.3.", "lay 1 40 .2.3", "lay 1 40 (2.3)", "lay 1 40 2-3", "lay 1 40 2.x", "void 2.3")

    def test_each_letter_with_a_sign_too_many_or_too_few(self):
        for text in ("tell 3 17 2.3", "void 17", "back 4", "lay 1 40 0.2.1"):
            for at in range(len(text) + 1):
                for sign in " .\n-x~":
                    if (text[:at] + sign + text[at:]) != text:
                        self.assert_maybe(text[:at] + sign + text[at:])
            for at in range(len(text)):
                self.assert_maybe(text[:at] + text[at + 1:])

    def assert_maybe(self, text):
        """Bad, but where the text with this sign is again a good one."""
        words = text.split(" ")
        forms = {"tell": 4, "lay": 4, "void": 2, "back": 2}
        plain = [word.isdigit() and str(int(word)) == word for word in words[1:]]
        way = all(part.isdigit() and str(int(part)) == part for part in words[-1].split("."))
        last = way if words[0] in ("tell", "lay") else plain[-1:] == [True]
        if forms.get(words[0]) == len(words) and all(plain[:-1]) and last:
            self.assertEqual(letter_text(read_letter(text)), text)
        else:
            self.assert_bad(text)
