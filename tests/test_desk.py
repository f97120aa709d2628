"""The desk: [31], and [32] for the letters that it tells."""

import random
import unittest

import helper
from helper import done, post_told, told
from swapslip.desk import Desk
from swapslip.letters import letter_text
from swapslip.pages import deed_text
from swapslip.post import Post
from swapslip.web import Web

RANGES = [(1, 9), (11, 19), (21, 29), (31, 39)]
RING = [("build", 0, 1, 1), ("build", 1, 2, 1), ("build", 2, 3, 1), ("build", 0, 3, 1)]

ALL_DEEDS = RING + [
    ("heed", 0), ("deliver", 1, 0), ("settle",), ("guard", 1, 2), ("deliver", 2, 3), ("settle",), ("snap", 1, 2),
    ("charge", 2, 1, 9), ("mend", 2, 1), ("tunnel", (0, 1, 2)), ("fell", 1), ("deliver", 2, 1), ("cut", 0, 3), ("settle",),
]


def settled(*deeds):
    """A desk of a settled ring, with a step that can be done again."""
    post = Post(RANGES)
    post.run(RING + [("settle",)])
    for deed in deeds:
        post.do(deed)
    post.do(("heed", 0))
    post.undo()
    return Desk(post)


class DeskTest(unittest.TestCase):
    def assert_says(self, desk, line, answer):
        said = desk.say(line)
        self.assertEqual(said, answer, repr(line))
        self.assertIs(type(said), str)

    def assert_stays(self, desk, line, answer):
        """So answered, and nothing is changed by it; what can be done again is still there."""
        post = desk.post()
        ahead, twin = post_told(post), post.twin()
        self.assert_says(desk, line, answer)
        self.assertIs(desk.post(), post)
        self.assertEqual(post_told(post), ahead, repr(line))
        self.assertTrue(post == twin)


class OfItsPost(DeskTest):
    def test_the_very_post(self):
        post = Post(RANGES)
        desk = Desk(post)
        self.assertIs(desk.post(), post)
        desk.say("build 0 1 1")
        self.assertIs(desk.post(), post)
        self.assertEqual(post.deeds(), [("build", 0, 1, 1)])
        post.do(("settle",))
        self.assert_says(desk, "way 0 1", "0.1")

    def test_two_desks_of_one_post(self):
        post = Post(RANGES)
        one, other = Desk(post), Desk(post)
        self.assert_says(one, "build 0 1 1", "done")
        self.assert_says(other, "build 1 0 1", "no hastie")
        self.assert_says(other, "settle", "4")
        self.assert_says(one, "way 0 1", "0.1")
        self.assert_says(one, "undo", "done")
        self.assert_says(other, "way 0 1", "none")
        self.assert_says(other, "redo", "done")
        self.assert_says(one, "redo", "no nothing")
        self.assertEqual(post.depth(), (2, 0))

    def test_a_post_with_steps(self):
        desk = settled()
        self.assert_says(desk, "redo", "done")
        self.assert_says(desk, "undo", "done")
        self.assert_says(desk, "undo", "done")
        self.assert_says(desk, "undo", "no nothing")

    def test_an_empty_post_is_a_post(self):
        # Its len is nought.
        self.assert_says(Desk(Post(RANGES)), "heed 0", "done")
        self.assert_says(Desk(Post(RANGES)), "send 0 1", "slip 0 0")

    def test_things_by_their_names(self):
        desk = Desk(post=Post(RANGES))
        self.assertEqual(desk.say(line="settle"), "0")


class DeedsAsLines(DeskTest):
    def test_each_deed(self):
        post, web = Post(RANGES), Web(RANGES)
        desk = Desk(post)
        for count, deed in enumerate(ALL_DEEDS, start=1):
            came_to = done(web, deed)[1]
            answer = "done" if came_to is None else letter_text(came_to) if isinstance(came_to, tuple) else str(came_to)
            self.assert_says(desk, deed_text(deed), answer)
            self.assertTrue(post.web() == web)
            self.assertEqual((post.depth(), post.deeds()), ((count, 0), ALL_DEEDS[:count]))
        self.assertEqual({deed[0] for deed in ALL_DEEDS}, set(helper.DEED_FORMS))

    def test_what_they_tell(self):
        desk = Desk(Post(RANGES))
        for line, answer in (
            ("build 0 1 1", "done"), ("build 1 2 2", "done"), ("build 2 0 1", "done"), ("heed 0", "done"),
            ("deliver 1 0", "tell 1 11 1"), ("deliver 0 1", "tell 0 1 0"), ("settle", "15"), ("tunnel 0.1.2", "1"),
            ("guard 0 1", "2"), ("deliver 2 1", "lay 1 24 0.1.2"), ("fell 1", "done"), ("deliver 2 1", "void 24"),
            ("deliver 1 2", "lay 2 14 0.2.1"), ("deliver 1 2", "back 24"), ("snap 0 1", "done"), ("mend 1 0", "done"),
            ("charge 1 0 9", "done"), ("cut 0 1", "done"),
        ):
            if line == "settle":
                answer = str(desk.post().web().settle())
            self.assert_says(desk, line, answer)
        self.assertEqual(len(desk.post()), 18)

    def test_a_letter_with_a_longer_way(self):
        desk = settled(("cut", 0, 3), ("settle",), ("build", 0, 3, 1), ("heed", 3))
        letters = desk.post().web().letters(0, 3)
        self.assertIn(("tell", 2, 4, (0, 1, 2)), [letter[:2] + (4,) + letter[3:] for letter in letters])
        for word, goal, number, way in letters:
            self.assert_says(desk, "deliver 0 3", f"tell {goal} {number} {'.'.join(map(str, way))}")

    def test_a_settling_that_takes_none(self):
        self.assert_says(settled(), "settle", "0")

    def test_refused(self):
        for line, answer in (
            ("build 0 1 1", "no hastie"), ("build 0 0 1", "no notie"), ("build 0 2 0", "no badprice"),
            ("build 0 2 10", "no badprice"), ("build 0 9 0", "no nohouse"), ("build 4 4 1", "no nohouse"),
            ("cut 0 2", "no notie"), ("cut 0 4", "no nohouse"), ("snap 2 0", "no notie"), ("mend 0 1", "no whole"),
            ("charge 0 1 0", "no badprice"), ("charge 0 2 1", "no notie"), ("heed 4", "no nohouse"),
            ("heed 999999", "no nohouse"), ("deliver 0 1", "no noletter"), ("deliver 0 2", "no notie"),
            ("deliver 0 4", "no nohouse"), ("tunnel 0", "no badway"), ("tunnel 0.1", "no badway"),
            ("tunnel 0.1.0", "no badway"), ("tunnel 0.1.3", "no notie"), ("tunnel 0.1.4", "no nohouse"),
            ("tunnel 4", "no nohouse"), ("fell 0", "no notunnel"), ("fell 1", "no notunnel"), ("guard 0 2", "no notie"),
            ("guard 0 4", "no nohouse"),
        ):
            self.assert_stays(settled(), line, answer)

    def test_refused_further(self):
        desk = settled(("snap", 0, 1), ("cut", 2, 3))
        self.assert_stays(desk, "snap 1 0", "no broken")
        self.assert_stays(desk, "deliver 1 0", "no broken")
        self.assert_stays(desk, "guard 0 1", "no lone")
        post = Post([(1, 1), (11, 19), (21, 29)])
        post.run([("build", 0, 1, 1), ("build", 1, 2, 1), ("build", 2, 0, 1)])
        self.assert_stays(Desk(post), "guard 1 0", "no short")
        self.assert_stays(Desk(post), "tunnel 1.2.0", "no short")
        post = Post([(1, 9)] * 8)
        pairs = helper.all_pairs(8)
        post.run([("build", one, other, 1) for one, other in pairs[:14]])
        self.assert_stays(Desk(post), deed_text(("build",) + pairs[14] + (1,)), "no toomany")


class BackAndAgain(DeskTest):
    def test_nothing(self):
        desk = Desk(Post(RANGES))
        self.assert_stays(desk, "undo", "no nothing")
        self.assert_stays(desk, "redo", "no nothing")

    def test_one_step_for_each_line(self):
        desk = Desk(Post(RANGES))
        states = []
        for deed in ALL_DEEDS:
            states.append(told(desk.post().web()))
            desk.say(deed_text(deed))
        last = told(desk.post().web())
        for state in states[::-1]:
            self.assert_says(desk, "undo", "done")
            self.assertEqual(told(desk.post().web()), state)
        self.assert_stays(desk, "undo", "no nothing")
        for state in states[1:] + [last]:
            self.assert_says(desk, "redo", "done")
            self.assertEqual(told(desk.post().web()), state)
        self.assert_stays(desk, "redo", "no nothing")

    def test_a_new_step_lets_go(self):
        desk = settled()
        self.assertEqual(desk.post().depth(), (1, 1))
        self.assert_says(desk, "heed 1", "done")
        self.assert_says(desk, "redo", "no nothing")

    def test_questions_let_nothing_go(self):
        desk = settled()
        for line in ("send 0 1", "slips 0", "way 0 1", "letters 0 1", "send 9 9", "dig", ""):
            desk.say(line)
        self.assert_says(desk, "redo", "done")


class Questions(DeskTest):
    def test_send(self):
        desk = settled()
        self.assert_stays(desk, "send 0 2", "came 2 0.1.2")
        self.assert_stays(desk, "send 3 2", "came 2 3.2")
        self.assert_stays(desk, "send 3 3", "came 3 3")
        self.assert_stays(Desk(Post(RANGES)), "send 0 3", "slip 0 0")
        self.assert_stays(Desk(Post(RANGES)), "send 0 0", "came 0 0")

    def test_send_over_broken_ties(self):
        desk = settled(("snap", 1, 2))
        self.assert_stays(desk, "send 0 2", "broken 1 2 0.1")
        self.assert_stays(desk, "send 1 2", "broken 1 2 1")
        desk = settled(("guard", 1, 2), ("settle",), ("snap", 1, 2))
        self.assert_stays(desk, "send 0 2", "came 2 0.1.0.3.2")

    def test_send_to_a_dead_slip(self):
        desk = settled(("cut", 1, 2))
        self.assert_stays(desk, "send 0 2", "dead 1 0.1")
        self.assert_stays(desk, "send 1 2", "slip 1 1")

    def test_slips(self):
        desk = Desk(Post(RANGES))
        self.assert_stays(desk, "slips 3", "31.goal3.live")
        desk = settled(("tunnel", (2, 3, 0)), ("snap", 0, 1), ("heed", 0))
        rows = desk.post().web().slips(0)
        answer = " ".join(f"{number}.{what[0]}{what[1]}.{mood}" for house, number, what, out, way, age, mood in rows)
        self.assert_stays(desk, "slips 0", answer)
        self.assertIn(" 5.tunnel1.live", answer)
        self.assertIn("1.goal0.live ", answer)
        self.assertIn(" 3.goal2.old ", answer)

    def test_slips_of_each_mood_by_numbers(self):
        desk = settled(("tunnel", (2, 1, 0)), ("settle",), ("fell", 1), ("deliver", 0, 1), ("cut", 2, 3))
        self.assert_stays(desk, "slips 0", "1.goal0.live 2.goal1.live 3.goal2.live 4.goal3.live 5.tunnel1.old")
        self.assertIn("tunnel1.dead", desk.say("slips 1"))
        self.assertIn("goal3.dead", desk.say("slips 2"))

    def test_way(self):
        desk = settled()
        for line, answer in (("way 0 2", "0.1.2"), ("way 0 1", "0.1"), ("way 2 2", "2"), ("way 3 1", "3.0.1")):
            self.assert_stays(desk, line, answer)
        self.assert_stays(Desk(Post(RANGES)), "way 0 1", "none")
        self.assert_stays(Desk(Post(RANGES)), "way 1 1", "1")

    def test_letters(self):
        desk = Desk(Post(RANGES))
        desk.say("build 0 1 1")
        self.assert_stays(desk, "letters 0 1", "1")
        self.assert_stays(desk, "letters 1 0", "1")
        desk.say("deliver 1 0")
        self.assert_stays(desk, "letters 1 0", "0")
        desk.say("snap 1 0")
        self.assert_stays(desk, "letters 0 1", "1")
        desk = settled()
        for turn in range(12):
            desk.say(f"tunnel {['3.0.1', '1.0.3'][turn % 2]}" if turn < 4 else "heed 0")
        self.assert_stays(desk, "letters 1 0", str(len(desk.post().web().letters(1, 0))))
        self.assert_stays(desk, "letters 1 0", "2")

    def test_ten_letters_or_more(self):
        post = Post([(1, 60)] * 3)
        post.run([("build", 0, 1, 1), ("build", 1, 2, 1), ("settle",)] + [("tunnel", (0, 1, 2))] * 12)
        self.assert_stays(Desk(post), "letters 2 1", "12")
        self.assert_stays(Desk(post), "letters 1 2", "0")

    def test_no_house_and_no_tie(self):
        for desk in (settled(), Desk(Post(RANGES))):
            for house in (4, 5, 10, 999999):
                self.assert_stays(desk, f"slips {house}", "no nohouse")
                for word in ("send", "way", "letters"):
                    self.assert_stays(desk, f"{word} {house} 0", "no nohouse")
                    self.assert_stays(desk, f"{word} 0 {house}", "no nohouse")
                    self.assert_stays(desk, f"{word} {house} {house}", "no nohouse")
            self.assert_stays(desk, "letters 0 2", "no notie")
            self.assert_stays(desk, "letters 1 1", "no notie")


class What(DeskTest):
    def assert_what(self, *lines):
        desk = settled()
        for line in lines:
            self.assert_stays(desk, line, "what")

    GOOD = [
        "build 0 2 1", "cut 0 1", "snap 0 1", "mend 0 1", "charge 0 1 2", "heed 0", "deliver 0 1", "settle", "tunnel 0.1.2",
        "fell 1", "guard 0 1", "undo", "redo", "send 0 1", "slips 0", "way 0 1", "letters 0 1",
    ]

    def test_the_good_lines_are_good(self):
        for line in self.GOOD:
            self.assertNotEqual(settled().say(line), "what")

    def test_empty_and_blanks(self):
        self.assert_what("", " ", "  ", ".", "-", "0", "1 2")
        for line in self.GOOD:
            self.assert_what(" " + line, line + " ", "  " + line, line + "  ")
            if " " in line:
                self.assert_what(line.replace(" ", "  "), line.replace(" ", "  ", 1), line.replace(" ", ""))

    def test_unknown_words(self):
        self.assert_what(
            "dig", "twin", "page", "post", "post 1-9", "rows", "view 0", "ties", "many", "holders 0 1", "run", "quit", "none",
            "done", "what", "no nothing", "tell 3 17 2.3", "void 17", "came 3 0.2.3", "word", "number", "cover", "audit",
        )
        for line in self.GOOD:
            self.assert_what(line.upper(), line.capitalize(), "x" + line, line.replace(line.split()[0], line.split()[0] + "s"))

    def test_words_too_many_or_too_few(self):
        for line in self.GOOD:
            words = line.split(" ")
            self.assert_what(line + " 0", line + " 0 0", line + " " + words[0], words[0] + " " + line, line + " 1.2")
            for at in range(len(words)):
                if len(words) > 1:
                    self.assert_what(" ".join(words[:at] + words[at + 1:]))

    def test_odd_numbers(self):
        odd = "00 01 007 000000 000001 0000000 1000000 1234567 +0 -0 -1 0_1 1_0 0x1 1e1 x a0 0a 0, ,0 ~ ' \" .0 0. . .. 0..1".split()
        odd.append(str(10 ** 39))
        for line in self.GOOD:
            words = line.split(" ")
            for at in range(1, len(words)):
                for number in odd:
                    self.assert_what(" ".join(words[:at] + [number] + words[at + 1:]))
        for word in odd:
            self.assert_what(f"tunnel {word}.1.2", f"tunnel 0.{word}.2", f"tunnel 0.1.{word}", f"tunnel {word}")

    def test_a_way_in_the_place_of_a_number(self):
        self.assert_what("heed 0.1", "fell 1.2", "cut 0.1", "cut 0.1 2", "send 0.1 2", "send 0.1", "way 0.1", "slips 0.1")
        self.assert_what("tunnel 0 1 2", "tunnel (0,1,2)", "tunnel 0,1,2", "tunnel 0-1-2")


class Drawn(DeskTest):
    """Desks beside the slow post of helper."""

    def drawn_line(self, rng, slow):
        many = len(slow.ranges)
        houses = list(range(many)) * 3 + [many, 99]
        pair = f"{rng.choice(houses)} {rng.choice(houses)}"
        draw = rng.random()
        if draw < 0.55:
            line = helper.texts_of(*helper.drawn_deed(rng, slow.web()))
        elif draw < 0.7:
            line = rng.choice(["undo", "undo", "redo"])
        else:
            line = rng.choice([f"send {pair}"] * 3 + [f"way {pair}", f"letters {pair}", f"slips {rng.choice(houses)}"])
        if rng.random() < 0.05:
            at = rng.randint(0, len(line))
            line = line[:at] + rng.choice(" 01.x-") + line[at + rng.randint(0, 1):]
        return line

    def test_beside_the_slow_post(self):
        rng = random.Random(76)
        seen = set()
        for turn in range(20):
            many = rng.randint(1, 8)
            ranges = helper.drawn_ranges(rng, many, turn % 2)
            desk, slow = Desk(Post(ranges)), helper.SlowPost(ranges)
            first = helper.first_deeds(rng, many)
            for step in range(len(first) + 70):
                line = helper.texts_of(*first[step]) if step < len(first) else self.drawn_line(rng, slow)
                ahead, depth = told(desk.post().web()), desk.post().depth()
                answer = slow.say(line)
                self.assert_says(desk, line, answer)
                seen.add(answer if answer.startswith("no ") else answer.split()[0])
                behind = told(desk.post().web())
                if answer == "what" or answer.startswith("no ") or line.split(" ")[0] in ("send", "slips", "way", "letters"):
                    self.assertEqual((behind, desk.post().depth()), (ahead, depth))
                self.assertEqual(behind, slow.web().all_told())
                self.assertEqual((desk.post().depth(), desk.post().deeds()), (slow.depth(), slow.deeds()))
        wanted = "done,what,none,came,slip,broken,dead,tell,void,back,lay,no nothing,no nohouse,no notie,no noletter,no broken"
        wanted += ",no badway,no notunnel,no lone,no short"
        self.assertEqual(set(wanted.split(",")) - seen, set())
