"""Playing sheets with numbers of forty digits: point 72."""

import random
import unittest

from firerest.farplaying import play_far
from firerest.playing import play
from firerest.reading import read_sheet
from tests.sheet_support import FAR, FarWorld, World, random_text, told_at_the_end
from tests.support import Case

NINES = 10 ** 40 - 1
FOUR = "ring a 4\nstates a .*o.\n"
RINGS = "ring a 3\nring b 4\nring c 5\nstates a *o.\nstates b *o..\nstates c *o...\n"


class FarPlayTest(Case):

    def check(self, text):
        """Check what a sheet prints against a reckoning that finds when pictures come back."""
        sheet = read_sheet(text)
        world = FarWorld(sheet.weave)
        world.play(sheet.deeds)
        found = play_far(sheet)
        self.same(found, tuple(world.printed))
        self.same(play_far(sheet=sheet), found)
        return found

    def test_the_reckoning_of_this_test(self):
        chance = random.Random(550)
        for _ in range(80):
            sheet = read_sheet(random_text(chance, 5, (0, 1, 2, 7, 13), 7))
            one, two = World(sheet.weave), FarWorld(sheet.weave)
            one.play(sheet.deeds)
            two.play(sheet.deeds)
            self.assertEqual(one.printed, two.printed)
            self.same(play_far(sheet), tuple(one.printed))
            if one.work <= 20000:
                self.same(play(sheet), tuple(one.printed))

    def test_by_hand(self):
        for deeds, wanted in (
                (f"run {4 * 10 ** 39}\nbeats\ncount a.3\nshow a", (f"beats {4 * 10 ** 39}", f"count a.3 {10 ** 39}", "a .*o.")),
                (f"run {NINES}\nbeats\ncount a.0\ncount a.2", (f"beats {NINES}", f"count a.0 {10 ** 40 // 4}",
                                                            f"count a.2 {10 ** 40 // 4}")),
                (f"times {10 ** 12}\nrun 4\nend\nage\ncount a.1", ("age always", f"count a.1 {10 ** 12}")),
                (f"times {FAR}\nend\nbeats", ("beats 0",)), (f"times 0\nrun {FAR}\nend\nbeats", ("beats 0",)),
                (f"times {FAR}\ntimes {FAR}\nrun {FAR}\nend\nend\nbeats\ncount a.0\nshow a",
                 (f"beats {FAR ** 3}", f"count a.0 {FAR ** 3 // 4}", "a .*o.")),
                (f"times {FAR}\ntimes {FAR}\nend\nend\nbeats", ("beats 0",)),
                (f"try\nrun {FAR}\nbeats\nend\nbeats\nrun 3\nbeats", (f"beats {FAR}", "beats 0", "beats 3")),
                (f"when fired a.1\nrun {FAR}\nelse\nbeats\nend\nbeats", (f"beats {FAR}",)),
                (f"times {FAR + 0}\nwhen fired a.1\nrun 3\nelse\nrun 1\nend\nend\nbeats", (f"beats {2 * FAR}",))):
            self.same(self.check(FOUR + "do\n" + deeds), wanted)

    def test_all_small_numbers_of_rounds(self):
        # Before, at and behind the beat at which pictures come back.
        for body in ("run 1", "run 2\npoke a.0", "when ready b.1\npoke b.0 c.2\nend\nrun 1", "poke c.0 c.3",
                     "times 2\nrun 1\nwhen fired c.1\npoke a.0\nend\nend"):
            for many in list(range(14)) + [59, 60, 61, 119, 120, 121, 200]:
                text = RINGS + f"do\ntimes {many}\n{body}\nend\nbeats\nshow a\nshow b\nshow c\ncount a.2\ncount b.0\ncount c.4"
                sheet = read_sheet(text)
                world = World(sheet.weave)
                world.play(sheet.deeds)
                self.same(play_far(sheet), tuple(world.printed))

    def test_runs_around_the_greatest_that_go_beat_by_beat(self):
        for many in list(range(190, 210)) + [0, 1, 2, 999, 1000, 3001]:
            self.check(RINGS + f"thread d 4\nstates d *...\ndo\nrun {many}\nbeats\nshow d\nshow c\ncount a.0\ncount c.1\ncount d.3")
            self.check(RINGS + f"do\ntimes 3\nrun {many}\npoke c.2\nend\nbeats\nshow c\ncount a.0\ncount c.1")

    def test_far_rounds(self):
        for text in (
                f"times {NINES}\nrun 1\nend", f"times {NINES}\npoke a.0 b.1 c.2\nend",
                f"times {NINES}\nrun {FAR}\npoke c.1\nend",
                f"times {NINES}\nwhen fired a.0\npoke b.3\nelse\nrun 2\nend\nend",
                f"times {NINES}\ntimes {NINES}\nwhen ready c.0\npoke c.2\nelse\nrun 1\nend\nend\nrun 1\nend",
                f"times 10\ntimes {FAR}\nrun 1\nwhen resting b.0\npoke b.2\nend\nend\npoke c.0 c.2\nend",
                f"times {NINES}\nrun {NINES}\nwhen ready a.1\nrun {FAR}\nelse\ntimes {NINES}\npoke a.1\nend\nend\nend",
                f"try\ntimes {FAR}\nrun 1\npoke c.0\nend\nbeats\ncount c.1\nend\nwhen fired a.0\ntimes {NINES}\npoke b.0\nend\nend",
                f"run 7\ncut b.0\ntimes {NINES}\npoke b.1\nrun 3\nend\ntie b.0 c.0\ntimes {FAR}\npoke b.1\nrun 4\nend"):
            found = self.check(RINGS + f"do\n{text}\nbeats\nshow a\nshow b\nshow c\ncount a.0\ncount b.1\ncount c.4\nfate b.0\nage")
            self.assertGreater(int(found[-9].split(" ")[1]), 10 ** 20)

    def test_the_same_block_from_other_pictures(self):
        # The inner block is begun with other pictures again and again, and with the same ones.
        for inner in (NINES, 5, 1, 0):
            for outer in (NINES, 17):
                self.check(RINGS + f"do\ntimes {outer}\nwhen fired c.0\npoke a.1\nelse\nrun 1\nend\ntimes {inner}\nrun 1\n"
                                   f"when ready b.0\npoke c.3\nend\nend\ntimes {inner}\npoke b.2\nend\nend\nbeats\nshow a\nshow b\n"
                                   f"show c\ncount a.1\ncount b.2\ncount c.3")
        # Equal blocks behind a cut do something else.
        block = f"times {NINES}\npoke a.0\nrun 3\nend\ncount a.0\ncount a.2\nshow a\n"
        self.check(FOUR + "do\n" + block + "cut a.1\n" + block + "tie a.1 a.0\n" + block + "try\n" + block + "end\n" + block)

    def test_eight_blocks_deep(self):
        text = FOUR + "do\n" + "".join(f"times {NINES}\nrun 1\n" for _ in range(8)) + "end\n" * 8 + "beats\ncount a.0\nshow a"
        beats = 0
        for _ in range(8):
            beats = NINES * (beats + 1)
        self.same(self.check(text)[0], f"beats {beats}")

    def test_random_sheets(self):
        chance = random.Random(551)
        for _ in range(200):
            numbers = chance.choice(((0, 1, 2, FAR), (NINES, 3), (1, 50, 10 ** 20), (FAR, NINES, 10 ** 39 + 7)))
            self.check(told_at_the_end(random_text(chance, chance.choice((3, 4, 5)), numbers, 8)))

    def test_twenty_places(self):
        text = ("ring a 3\nring b 4\nring c 5\nring d 7\nthread e 1\nstates a *o.\nstates b *o..\nstates c *o...\n"
                "states d *o.....\ndo\n")
        tail = "beats\ncount a.0\ncount d.6\nshow d\nage"
        self.check(text + f"run {NINES}\n" + tail)
        self.check(text + f"times {NINES}\nrun 1\nend\n" + tail)
        self.check(text + f"times {NINES}\nrun 1\nwhen fired d.3\npoke e.0\nend\nend\n" + tail)
        self.check(text + f"times {NINES}\nwhen fired d.3\npoke b.1 b.3\nelse\nrun 1\nend\nwhen fired b.0\npoke c.3\nend\nend\n" + tail)
        self.check(f"full a 20\ndo\ntimes {NINES}\npoke a.3\nrun 2\npoke a.7 a.8\nend\nbeats\ncount a.0\ncount a.3\nage")
        self.check(f"star a 19\ndo\ntimes {NINES}\nwhen ready a.0\npoke a.1\nelse\npoke a.2\nend\nend\nbeats\ncount a.0\ncount a.19")


if __name__ == "__main__":
    unittest.main()
