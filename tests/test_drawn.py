"""Many drawn deeds, each beside the slow web of helper: all that is told, all refusals and all frames."""

import collections
import random

import helper
from helper import WebTest, done, told
from swapslip.frames import send
from swapslip.web import Web

WORDS = "build cut snap mend charge heed deliver settle tunnel fell guard".split()


class Drawn(WebTest):
    def run_deeds(self, seed, wide, turns):
        rng = random.Random(seed)
        many = rng.choice([1, 2, 3, 4, 4, 5, 5, 6, 6, 7, 7, 8, 8])
        ranges = helper.drawn_ranges(rng, many, wide)
        web, slow = Web(ranges), helper.SlowWeb(ranges)
        first = helper.first_deeds(rng, many)
        for turn in range(turns):
            deed = first[turn] if turn < len(first) else helper.drawn_deed(rng, slow)
            with self.subTest(seed=seed, turn=turn, deed=deed):
                self.step(web, slow, deed)

    def step(self, web, slow, deed):
        before = told(web)
        came_to = done(web, deed)
        self.assertEqual(came_to, slow.do(deed))
        self.seen[(deed[0], came_to[1] if came_to[0] == "refused" else "told")] += 1
        after = told(web)
        if came_to[0] == "refused":
            self.assertEqual(after, before)
        self.assertEqual(after, slow.all_told())
        self.assertEqual(len(web), len(after[("rows",)]))
        self.assertEqual(helper.row_faults(web.ranges(), web.rows()), [])
        for house in range(web.many()):
            for goal in range(web.many()):
                self.look_at_frame(web, slow, house, goal)
        self.assertEqual(told(web), after)
        self.note(slow, after)

    def look_at_frame(self, web, slow, house, goal):
        end, steps = send(web, house, goal)
        self.assertEqual((end, steps), slow.send(house, goal))
        self.seen[("frame", end[0], max(len(numbers) for at, numbers in steps))] += 1
        if end[0] == "came":
            self.assertEqual(end, ("came", goal))
            houses = helper.way_with_tunnels(web.way(house, goal), web.ties(), slow.ready())
            self.assertEqual([step[0] for step in steps], houses)

    def note(self, slow, after):
        self.seen["short"] += after[("short",)] != []
        self.seen["several wait"] += len(slow.wait) > 1
        self.seen["felled and ready"] += any(bore["felled"] and bore["out"] for bore in slow.bore)
        for mood in ("live", "old", "dead"):
            self.seen[mood] += any(row[6] == mood and row[2][0] == "tunnel" for row in after[("rows",)])

    def test_beside_the_slow_web(self):
        self.seen = collections.Counter()
        for seed in range(40):
            self.run_deeds(seed, seed % 2, 100)
        # The draw is of no use where it does not come to all of this.
        wanted = [(word, "told") for word in WORDS]
        wanted += [("build", word) for word in "nohouse notie hastie badprice toomany".split()]
        wanted += [("deliver", word) for word in "nohouse notie broken noletter".split()]
        wanted += [("tunnel", word) for word in "nohouse badway short".split()] + [("fell", "notunnel")]
        wanted += [("guard", word) for word in "nohouse notie lone short".split()]
        wanted += [("frame", "came", 0), ("frame", "came", 1), ("frame", "came", 2), ("frame", "slip", 0)]
        wanted += [("frame", "dead", 1), ("frame", "dead", 2), ("frame", "broken", 1), ("frame", "broken", 2)]
        wanted += ["short", "several wait", "felled and ready", "live", "old", "dead"]
        self.assertEqual([what for what in wanted if not self.seen[what]], [])
