"""Deeds and posts as texts: [30]."""

import random
import unittest

import helper
from helper import called, post_told, read_page_by_the_words, told
from swapslip.errors import BadPage
from swapslip.pages import deed_text, page, read_page
from swapslip.post import Post

FAR = 10 ** 39
RANGES = [(1, 9), (20, 29), (40, 49)]
RING = [("build", 0, 1, 1), ("build", 1, 2, 2), ("build", 2, 0, 9)]

# Each word at least once, done one behind another.
DEEDS = RING + [
    ("heed", 0), ("deliver", 1, 0), ("settle",), ("guard", 1, 2), ("snap", 1, 2), ("mend", 2, 1), ("charge", 0, 1, 3),
    ("tunnel", (0, 2, 1)), ("fell", 1), ("cut", 2, 0),
]
LINES = [
    "post 1-9 20-29 40-49", "build 0 1 1", "build 1 2 2", "build 2 0 9", "heed 0", "deliver 1 0", "settle", "guard 1 2",
    "snap 1 2", "mend 2 1", "charge 0 1 3", "tunnel 0.2.1", "fell 1", "cut 2 0",
]
TEXT = "".join(line + "\n" for line in LINES)


def with_line(at, line):
    """The text with another line at a place."""
    return "".join(each + "\n" for each in LINES[:at] + [line] + LINES[at + 1:])


class DeedTexts(unittest.TestCase):
    def test_each_deed(self):
        for deed, line in zip(DEEDS, LINES[1:]):
            self.assertEqual(deed_text(deed), line)
        self.assertEqual({deed[0] for deed in DEEDS}, set(helper.DEED_FORMS))

    def test_ways(self):
        self.assertEqual(deed_text(("tunnel", (0, 2, 1))), "tunnel 0.2.1")
        self.assertEqual(deed_text(("tunnel", [7, 6, 5, 4, 3, 2, 1, 0])), "tunnel 7.6.5.4.3.2.1.0")
        self.assertEqual(deed_text(("tunnel", (3,))), "tunnel 3")
        self.assertEqual(deed_text(("tunnel", [3])), "tunnel 3")
        self.assertEqual(deed_text(("tunnel", (3, 10))), "tunnel 3.10")

    def test_deeds_that_nobody_would_do(self):
        self.assertEqual(deed_text(("build", 9, 10, 0)), "build 9 10 0")
        self.assertEqual(deed_text(("fell", 123456)), "fell 123456")
        self.assertEqual(deed_text(("fell", FAR)), f"fell {FAR}")

    def test_what_is_handed_in_stays(self):
        way = [0, 2, 1]
        deed_text(("tunnel", way))
        self.assertEqual(way, [0, 2, 1])

    def test_things_by_their_names(self):
        self.assertEqual(deed_text(deed=("settle",)), "settle")
        self.assertEqual(page(post=Post(RANGES)), "post 1-9 20-29 40-49\n")
        self.assertTrue(read_page(text="post 1-9\n") == Post([(1, 9)]))


class Pages(unittest.TestCase):
    def test_without_steps(self):
        self.assertEqual(page(Post([(1, 9), (20, 29)])), "post 1-9 20-29\n")
        self.assertEqual(page(Post([(7, 7)])), "post 7-7\n")
        self.assertEqual(page(Post([(9936, 9999)] * 8)), "post" + " 9936-9999" * 8 + "\n")

    def test_each_deed(self):
        post = Post(RANGES)
        for at, deed in enumerate(DEEDS):
            post.do(deed)
            self.assertEqual(page(post), "".join(line + "\n" for line in LINES[:at + 2]))

    def test_runs_one_by_one(self):
        post = Post(RANGES)
        post.run(DEEDS[:5])
        post.do(DEEDS[5])
        post.run(DEEDS[6:])
        self.assertEqual(page(post), TEXT)

    def test_steps_taken_back(self):
        post = Post(RANGES)
        post.run(DEEDS[:6])
        for deed in DEEDS[6:]:
            post.do(deed)
        for at in range(len(LINES) - 1, 6, -1):
            post.undo()
            self.assertEqual(page(post), "".join(line + "\n" for line in LINES[:at]))
        post.undo()
        self.assertEqual(page(post), LINES[0] + "\n")
        post.redo()
        self.assertEqual(page(post), "".join(line + "\n" for line in LINES[:7]))

    def test_refused_ones_and_empty_runs_are_not_on_it(self):
        post = Post(RANGES)
        called(post.do, ("heed", 9))
        called(post.run, [("heed", 0), ("heed", 9)])
        post.run([])
        self.assertEqual(page(post), LINES[0] + "\n")

    def test_a_question(self):
        post = Post(RANGES)
        post.run(DEEDS)
        post.do(("heed", 0))
        post.undo()
        ahead, twin = post_told(post), post.twin()
        page(post)
        self.assertEqual(post_told(post), ahead)
        self.assertTrue(post == twin)
        self.assertEqual(post.depth(), (1, 1))


class ReadBack(unittest.TestCase):
    def assert_read(self, text, post):
        read = read_page(text)
        self.assertIs(type(read), Post)
        self.assertTrue(read == post)
        self.assertEqual(told(read.web()), told(post.web()))
        self.assertEqual(read.deeds(), post.deeds())
        self.assertEqual(read.depth(), (len(post.deeds()), 0))
        self.assertEqual(page(read), text)
        back = post.twin()
        while len(read):
            read.undo()
        while len(back):
            back.undo()
        self.assertTrue(read == back)

    def test_without_steps(self):
        for ranges in ([(1, 1)], [(1, 64)] * 8, [(9936, 9999), (9999, 9999), (1, 9)]):
            self.assert_read(page(Post(ranges)), Post(ranges))

    def test_each_deed(self):
        post = Post(RANGES)
        post.run(DEEDS)
        self.assert_read(TEXT, post)

    def test_behind_drawn_deeds(self):
        rng = random.Random(75)
        for turn in range(30):
            many = rng.randint(1, 8)
            post = Post(helper.drawn_ranges(rng, many, turn % 2))
            called(post.run, helper.first_deeds(rng, many))
            for step in range(40):
                if rng.random() < 0.2:
                    called(rng.choice([post.undo, post.redo]))
                else:
                    called(post.do, helper.drawn_deed(rng, helper.Seen(post.web(), 5)))
            self.assert_read(page(post), post)


class NotRead(unittest.TestCase):
    def assert_bad(self, text, row):
        self.assertEqual(called(read_page, text), ("refused", "badpage", {"row": row}), repr(text))
        self.assertEqual(read_page_by_the_words(text), row, repr(text))

    def test_its_class(self):
        self.assertRaises(BadPage, read_page, "")

    def test_the_empty_text(self):
        self.assert_bad("", 0)
        self.assert_bad("\n", 0)
        self.assert_bad("\n\n", 0)
        self.assert_bad(" ", 0)
        self.assert_bad("\n" + TEXT, 0)

    def test_a_missing_line_feed(self):
        for at in range(len(LINES)):
            self.assert_bad("\n".join(LINES[:at + 1]), at)
        # The line that lacks it may be of no form as well, or only begun.
        self.assert_bad(TEXT + "x", len(LINES))
        self.assert_bad(TEXT + " ", len(LINES))
        self.assert_bad(TEXT + "settle", len(LINES))

    def test_an_earlier_line_comes_ahead_of_a_missing_line_feed(self):
        self.assert_bad("post 1-9\ndig\nsettle", 1)
        self.assert_bad("post 1-9\nheed 1\nsettle", 1)
        self.assert_bad("post 0-9\nsettle", 0)

    def test_a_line_feed_too_many(self):
        for at in range(len(LINES)):
            self.assert_bad("\n".join(LINES[:at + 1]) + "\n\n" + "\n".join(LINES[at + 1:]), at + 1)
        self.assert_bad(TEXT + "\n", len(LINES))

    def test_lines_out(self):
        self.assert_bad("".join(line + "\n" for line in LINES[1:]), 0)
        # Without its tie, what speaks of the tie is refused; without the first settling no tunnel is laid otherwise.
        self.assert_bad("".join(line + "\n" for line in LINES[:1] + LINES[2:]), 4)
        self.assert_bad(TEXT.replace("snap 1 2\n", ""), 8)
        self.assert_bad(TEXT.replace("guard 1 2\n", "").replace("tunnel 0.2.1\n", ""), 10)

    def test_lines_twice(self):
        for at in (0, 1, 2, 3, 8, 9, 12, 13):
            lines = LINES[:at + 1] + LINES[at:]
            self.assert_bad("".join(line + "\n" for line in lines), at + 1)
        self.assert_bad(TEXT + TEXT, len(LINES))

    def test_lines_moved(self):
        self.assert_bad("".join(line + "\n" for line in LINES[1:] + LINES[:1]), 0)
        self.assert_bad("".join(line + "\n" for line in [LINES[0], LINES[8]] + LINES[1:8] + LINES[9:]), 1)
        self.assert_bad("".join(line + "\n" for line in LINES[:8] + [LINES[9], LINES[8]] + LINES[10:]), 8)

    def test_each_line_out_twice_or_moved(self):
        for at in range(len(LINES)):
            rest = LINES[:at] + LINES[at + 1:]
            for to in [None] + list(range(len(LINES) + 1)):
                lines = rest if to is None else rest[:to] + [LINES[at]] + rest[to:]
                self.assert_as_the_words("".join(line + "\n" for line in lines))
                if to is not None:
                    lines = LINES[:to] + [LINES[at]] + LINES[to:]
                    self.assert_as_the_words("".join(line + "\n" for line in lines))

    def test_bad_ranges(self):
        bad = "0-0 0-9 2-1 9-8 1-65 2-66 9935-9999 9999-10000 10000-10000 999999-999999 1-999999".split()
        bad += "1 1- -1 - -- 1--9 1-9-9 1-9- -1-9 +1-9 1-+9 01-9 1-09 00-9 0000001-9 1-0000009 1000000-1000000".split()
        bad += "a-b 1-b a-9 1.9 1_9 1,9 1:9 1-9. 1-9, x 1-9x (1-9) ~ 1e1-20 0x1-9".split() + ["1 - 9", "1- 9", "1 -9"]
        for word in bad:
            for line in (f"post {word}", f"post 1-9 {word}", f"post {word} 1-9"):
                self.assert_bad(line + "\n", 0)
                self.assert_bad(line + "\nsettle\n", 0)

    def test_the_first_line(self):
        bad = ["", "post", "post ", " post 1-9", "post  1-9", "post 1-9 ", "post 1-9  20-29", "Post 1-9", "posts 1-9"]
        bad += ["post1-9", "1-9", "build 0 1 1", "settle", "web 1-9", "post" + " 1-9" * 9, "post" + " 1-9" * 20, "post 1-9 post"]
        for line in bad:
            self.assert_bad(line + "\n", 0)
            self.assert_bad(line + "\nheed 0\n", 0)

    def test_one_to_eight_houses(self):
        for many in range(1, 9):
            self.assertEqual(read_page("post" + " 1-9" * many + "\n").web().many(), many)

    def test_numbers(self):
        bad = "01 00 007 000001 0000001 1000000 1234567 +1 -1 -0 1_0 1e0 1.0 0x1 x 1x x1 1, ~ ' . .1 1.".split() + [""]
        for word in bad:
            for line in (
                f"build {word} 1 1", f"build 0 {word} 1", f"build 0 1 {word}", f"cut {word} 1", f"cut 0 {word}",
                f"heed {word}", f"fell {word}", f"deliver 1 {word}", f"guard {word} 2", f"charge 0 1 {word}",
            ):
                self.assert_bad(f"{LINES[0]}\nbuild 1 2 1\n{line}\n", 2)

    def test_seven_figures(self):
        for line in ("heed 0000000", "heed 1000000", "fell 1234567", "build 0 1 0000001", "tunnel 0.1.1000000"):
            self.assert_bad(f"{LINES[0]}\n{line}\n", 1)

    def test_six_figures_are_read_and_refused(self):
        self.assert_bad(f"{LINES[0]}\nheed 999999\n", 1)
        self.assert_bad(f"{LINES[0]}\nfell 100000\n", 1)

    def test_ways(self):
        lines = "".join(line + "\n" for line in LINES[:7])
        self.assertEqual(read_page(lines + "tunnel 0.1.2\n").web().tunnels(), [(1, (0, 1, 2), None)])
        bad = ["", ".", "0.1.2.", ".0.1.2", "0..1.2", "0,1,2", "0.1.2 ", "0 1 2", "0.1 .2", "0.01.2", "0.1.+2", "(0.1.2)", "0-1-2"]
        bad += ["0", "0.1", "0.1.0", "0.1.3", "9", "0.1.1", "0.1.2.0", "0.1.2 0.1.2"]
        for word in bad:
            self.assert_bad(f"{lines}tunnel {word}\n", 7)

    def test_blanks(self):
        for at in range(1, len(LINES)):
            line = LINES[at]
            wrong = [" " + line, line + " ", line.replace(" ", "  ", 1), line.replace(" ", "", 1), line + "  "]
            for each in wrong:
                if each != line:
                    self.assert_bad(with_line(at, each), at)

    def test_words(self):
        for at in range(1, len(LINES)):
            line = LINES[at]
            for each in (line + " 1", line + " settle", line.upper(), "x" + line, line.split(" ")[0] + "s", "undo", "redo",
                         "send 0 1", "slips 0", "way 0 1", "letters 0 1", "post 1-9", LINES[0], "dig", "#"):
                self.assert_bad(with_line(at, each), at)
            if " " in line:
                self.assert_bad(with_line(at, line.rsplit(" ", 1)[0]), at)
                self.assert_bad(with_line(at, line.split(" ", 1)[1]), at)

    def test_a_deed_that_is_refused(self):
        first = "post 1-9 11-11 21-29 31-39\nbuild 0 1 1\nbuild 1 2 1\nbuild 0 2 1\n"
        for line in (
            "build 0 1 1", "build 0 0 1", "build 0 3 0", "build 0 3 10", "build 0 4 1", "cut 0 3", "snap 3 0", "mend 0 1",
            "charge 0 1 0", "charge 0 3 1", "heed 4", "deliver 0 3", "tunnel 0.1", "tunnel 0.2.1", "tunnel 0.1.3",
            "fell 1", "fell 0", "guard 0 1", "guard 0 3", "guard 3 3",
        ):
            self.assert_bad(first + line + "\n", 4)
            self.assert_bad(first + "heed 0\n" + line + "\nheed 9\n", 5)
        self.assert_bad(first + "snap 0 1\nguard 0 2\n", 5)
        self.assert_bad(first + "snap 0 1\nsnap 0 1\n", 5)
        self.assert_bad(first + "snap 0 1\ndeliver 0 1\n", 5)

    def test_the_first_wrong_line_counts(self):
        self.assert_bad("post 0-9\nheed 9\n", 0)
        self.assert_bad("post 1-9\nheed 9\ndig\n", 1)
        self.assert_bad("post 1-9\ndig\nheed 9\n", 1)
        self.assert_bad("post 1-9\nheed 0\nheed  0\nheed 9\n", 2)

    def assert_as_the_words(self, text):
        """Bad at the same line as by the slow reading, or read and written just so."""
        slow = read_page_by_the_words(text)
        if isinstance(slow, int):
            self.assertEqual(called(read_page, text), ("refused", "badpage", {"row": slow}), repr(text))
        else:
            read = read_page(text)
            self.assertEqual((page(read), read.depth()), (text, slow.depth()))
            self.assertEqual((slow.page(), told(read.web())), (text, slow.web().all_told()))
        return isinstance(slow, int)

    def test_a_sign_too_many_or_too_few(self):
        text = "post 1-9 20-29 40-49\nbuild 0 1 1\nbuild 1 2 1\n"
        text += "settle\ntunnel 0.1.2\ndeliver 2 1\nfell 1\nbuild 2 0 3\n"
        self.assertFalse(self.assert_as_the_words(text))
        bad = 0
        for at in range(len(text) + 1):
            bad += self.assert_as_the_words(text[:at] + text[at + 1:])
            for sign in " \n.-01x":
                bad += self.assert_as_the_words(text[:at] + sign + text[at:])
                bad += self.assert_as_the_words(text[:at] + sign + text[at + 1:])
        self.assertGreater(bad, 1000)

    def test_cut_short(self):
        for at in range(len(TEXT)):
            self.assert_as_the_words(TEXT[:at])
            self.assert_as_the_words(TEXT[at:])
