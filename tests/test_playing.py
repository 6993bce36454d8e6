"""Playing sheets: points 66 and 72."""

import random
import time
import unittest

from firerest.errors import TooLong
from firerest.farplaying import play_far
from firerest.playing import play
from firerest.reading import read_sheet
from firerest.sheets import Sheet
from tests.sheet_support import FAR, World, random_text, told_at_the_end
from tests.support import Case, shown

TOP = "ring a 4\nstates a .*o.\nthread b 3\nstates b *..\n"
NINES = "9" * 40


class PlayCase(Case):

    def check(self, text):
        """Check what a sheet prints, and its work; return the lines."""
        sheet = read_sheet(text)
        world = World(sheet.weave)
        world.play(sheet.deeds)
        wanted = tuple(world.printed)
        self.same(play(sheet), wanted)
        self.check_work(sheet, world.work, wanted)
        if len(world.picture) <= 20:
            self.same(play_far(sheet), wanted)
        return wanted

    def check_work(self, sheet, work, wanted):
        """Check the limits around the work of a sheet."""
        before = shown(sheet)
        for limit in (work, work + 1, 20000):
            self.same(play(sheet, limit=limit), wanted)
        for limit in {0, 1, work // 2, work - 1}:
            if 0 <= limit < work:
                self.fails("TooLong", (limit,), play, sheet, limit=limit)
        self.assertEqual(shown(sheet), before)


class PlayTest(PlayCase):

    def test_each_printing_deed(self):
        for deeds, wanted in (
                ("show a", ("a .*o.",)), ("show b\nshow a\nshow b", ("b *..", "a .*o.", "b *..")),
                ("beats", ("beats 0",)), ("run 3\nbeats\npoke b.1\nbeats", ("beats 3", "beats 4")),
                ("count a.0", ("count a.0 0",)), ("count a.1\nrun 4\ncount a.1", ("count a.1 0", "count a.1 1")),
                ("run 9\ncount b.2\ncount b.0", ("count b.2 1", "count b.0 0")),
                ("poke b.2 b.2\ncount b.2\ncount b.0\nshow b", ("count b.2 1", "count b.0 0", "b o**")),
                ("fate a.0", ("fate a.0 lasting 1/4",)), ("fate b.2", ("fate b.2 silent 2",)),
                ("run 2\nfate b.2\nrun 9\nfate b.0", ("fate b.2 silent 0", "fate b.0 silent 0")),
                ("cut a.2\nfate a.2\nfate a.0", ("fate a.2 silent 0", "fate a.0 silent 2")),
                ("age", ("age 0",)), ("cut b.0\ncut b.1\ncut b.2\nage", ("age always",)),
                ("run 1\nage\nrun 1\nage", ("age 1", "age 2"))):
            self.same(self.check(TOP + "do\n" + deeds), wanted)

    def test_no_deeds_and_no_places(self):
        for text in ("", "do", TOP, TOP + "do"):
            self.same(self.check(text), ())
        self.same(self.check("do\nage\nbeats\nrun 7\nbeats"), ("age always", "beats 0", "beats 7"))
        self.same(play(Sheet([], []), limit=0), ())
        self.same(play_far(Sheet([], [])), ())

    def test_when(self):
        body = "show b\nelse\nshow a\nend"
        for state, place, printed in (("ready", "a.0", 0), ("fired", "a.0", 1), ("resting", "a.0", 1),
                                      ("ready", "a.1", 1), ("fired", "a.1", 0), ("resting", "a.1", 1),
                                      ("ready", "a.2", 1), ("fired", "a.2", 1), ("resting", "a.2", 0)):
            lines = self.check(TOP + f"do\nwhen {state} {place}\n{body}")
            self.same(lines, ("b *..", "a .*o.")[printed:printed + 1])
            self.same(self.check(TOP + f"do\nwhen {state} {place}\nshow b\nend"), ("b *..",)[printed:])
            self.same(self.check(TOP + f"do\nwhen {state} {place}\nelse\nshow a\nend"), ("a .*o.",)[1 - printed:])
        # The state is that of the moment.
        self.same(self.check(TOP + "do\nrun 1\nwhen fired a.0\nshow a\nend\nrun 1\nwhen resting a.0\nbeats\nend"),
                  ("a *o..", "beats 2"))

    def test_try(self):
        self.same(self.check(TOP + "do\nrun 1\ntry\nrun 3\ncut a.0\ntie a.1 b.1\nuntie b.0 b.1\npoke b.2\nbeats\ncount b.2\n"
                                   "show a\nfate a.0\nend\nbeats\ncount b.2\nshow a\nfate a.0"),
                  ("beats 5", "count b.2 2", "a .o..", "fate a.0 silent 0", "beats 1", "count b.2 0", "a *o..",
                   "fate a.0 lasting 1/4"))
        self.same(self.check(TOP + "do\ntry\nrun 1\ntry\nrun 1\nbeats\nend\nbeats\ntry\nend\nbeats\nend\nbeats"),
                  ("beats 2", "beats 1", "beats 1", "beats 0"))

    def test_counts_go_through_cuts_and_ties(self):
        self.same(self.check(TOP + "do\nrun 4\ncount a.1\ncut a.1\ncount a.1\ntie a.1 b.0\nrun 2\npoke a.1\ncount a.1\nuntie a.1 b.0\n"
                                   "count a.1\ncount a.0\nbeats"),
                  ("count a.1 1", "count a.1 1", "count a.1 2", "count a.1 2", "count a.0 1", "beats 7"))
        self.same(self.check(TOP + "do\nuntie a.0 b.0\ntie a.0 a.1\ntie a.0 a.1\nrun 5\ncount a.3\nuntie a.0 a.2\nrun 4\ncount a.3"),
                  ("count a.3 1", "count a.3 2"))

    def test_cut_tie_and_untie(self):
        tail = "\nrun 1\nshow a\nshow b"
        for deeds, wanted in (("run 0", ("a *o..", "b o*.")), ("tie a.1 b.2", ("a *o..", "b o**")),
                              ("tie b.2 a.1\ntie a.1 b.2", ("a *o..", "b o**")), ("untie a.0 a.1", ("a .o..", "b o*.")),
                              ("untie a.1 a.0", ("a .o..", "b o*.")), ("untie a.1 a.3", ("a *o..", "b o*.")),
                              ("cut a.1", ("a ....", "b o*.")), ("cut b.1\ntie b.2 b.0", ("a *o..", "b o.*")),
                              ("tie a.3 b.0\nuntie b.0 b.1", ("a *o.*", "b o.."))):
            self.same(self.check(TOP + "do\n" + deeds + tail), wanted)
            self.same(self.check(TOP + "do\ntry\n" + deeds + "\nend" + tail), ("a *o..", "b o*."))

    def test_random_sheets(self):
        chance = random.Random(540)
        lines = 0
        for _ in range(350):
            text = random_text(chance, chance.choice((3, 5, 6)), (0, 1, 2, 3, 5), 9)
            lines += len(self.check(told_at_the_end(text)))
        self.assertGreater(lines, 2000)

    def test_sixty_places(self):
        chance = random.Random(541)
        for _ in range(12):
            self.check(random_text(chance, 4, (0, 1, 2), 60).replace("\nage", "\nbeats").replace(" age", " beats"))
        text = "sheet a 6 10\nstates a " + ".*o" * 20 + "\ndo\nrun 5\nfate a.9\npoke a.0 a.59\nshow a\ncount a.59"
        self.check(text)
        self.check("full a 59\nthread b 1\ndo\npoke a.0\nrun 1\nshow a\nfate a.3\nshow b\ntie a.0 b.0\nrun 3\nshow b")


class LimitTest(PlayCase):

    def work(self, text):
        """Return the least limit that lets a sheet be played."""
        sheet = read_sheet(text)
        world = World(sheet.weave)
        world.play(sheet.deeds)
        self.check_work(sheet, world.work, tuple(world.printed))
        return world.work

    def test_work(self):
        for deeds, work in (
                ("", 0), ("run 0", 1), ("run 5", 6), ("poke a.0", 1), ("poke a.0 a.1 a.0", 1), ("beats", 1), ("age", 1),
                ("cut a.0\ntie a.0 a.1\nuntie a.1 a.0\nshow a\ncount a.0\nfate a.0", 6), ("times 0\nend", 1),
                ("times 0\nrun 5\nend", 1), ("times 7\nend", 8), ("times 3\nrun 2\nend", 13),
                ("times 3\ntimes 2\nrun 1\nend\nend", 1 + 3 + 3 * (1 + 2 + 2 * 2)), ("times 2\npoke a.0\npoke a.1\nend", 7),
                ("try\nend", 1), ("try\nrun 2\nbeats\nend", 5), ("when fired a.1\nrun 3\nelse\nrun 9\nend", 5),
                ("when ready a.1\nrun 3\nelse\nrun 9\nend", 11), ("when ready a.1\nrun 3\nend", 1),
                ("when fired a.1\nend", 1), ("run 19999", 20000), ("times 19999\nend", 20000),
                ("times 10\nwhen fired a.1\nrun 1\nelse\nrun 2\nend\nend", None)):
            found = self.work(TOP + "do\n" + deeds)
            if work is not None:
                self.same(found, work)

    def test_the_default_limit(self):
        self.same(play(read_sheet("do\nrun 19999")), ())
        self.same(play(read_sheet("do\ntimes 19999\nend")), ())
        self.same(play(read_sheet(TOP + "do\ntimes 6666\nrun 1\nend\nrun 0")), ())
        for text in ("do\nrun 20000", "do\ntimes 20000\nend", "do\nrun 19998\nrun 0\nrun 0",
                     TOP + "do\ntimes 6666\nrun 1\nend\nrun 0\nbeats\nbeats"):
            self.fails("TooLong", (20000,), play, read_sheet(text))
            self.fails("TooLong", (20000,), play, sheet=read_sheet(text))

    def test_limits_by_name_alone(self):
        sheet = read_sheet("do\ntimes 3\nrun 2\nend")
        self.fails("TooLong", (12,), play, sheet, limit=12)
        self.same(play(sheet=sheet, limit=13), ())
        self.same(play(limit=13, sheet=sheet), ())
        with self.assertRaises(TypeError):
            play(sheet, 13)

    def test_numbers_of_forty_digits(self):
        began = time.monotonic()
        for deeds in (f"run {NINES}", f"times {NINES}\nend", f"times {FAR}\nrun {FAR}\nend", f"times 2\nrun {NINES}\nend",
                      f"times {NINES}\ntimes {NINES}\nend\nend", f"try\nrun {NINES}\nend", f"try\ntimes {NINES}\npoke a.0\nend\nend",
                      f"when fired a.1\nrun {NINES}\nend", f"when ready a.1\nelse\ntimes {FAR}\nend\nend",
                      f"times 9\nwhen fired a.1\nrun {NINES}\nend\nrun 1\nend", f"run 19000\nrun {FAR}"):
            for limit in (0, 1, 13, 20000):
                self.fails("TooLong", (limit,), play, read_sheet(TOP + "do\n" + deeds), limit=limit)
            self.fails("TooLong", (20000,), play, read_sheet(TOP + "do\n" + deeds))
        for deeds in (f"times 0\nrun {NINES}\ntimes {FAR}\nend\nend", f"when ready a.1\nrun {NINES}\nend",
                      f"when fired a.1\nelse\ntimes {FAR}\nend\nend"):
            self.same(play(read_sheet(TOP + "do\n" + deeds), limit=1), ())
        self.assertLess(time.monotonic() - began, 20)

    def test_asking_again(self):
        sheet = read_sheet(TOP + "do\nrun 2\nshow a\ntry\nrun 5\nbeats\nend\ntimes 4\npoke b.0\nend\ncount b.0")
        wanted = play(sheet)
        with self.assertRaises(TooLong):
            play(sheet, limit=3)
        self.same(play_far(sheet), wanted)
        self.same(play(sheet), wanted)

    def test_sheets_from_lists(self):
        weave = [["ring", "a", 4], ["states", "a", ".*o."]]
        deeds = [["times", 3, [["poke", [["a", 0]]]]], ["when", "fired", ["a", 0], [], [["show", "a"]]], ["count", ["a", 1]]]
        sheet = Sheet(weave, deeds)
        wanted = play(read_sheet("ring a 4\nstates a .*o.\ndo\ntimes 3\npoke a.0\nend\nwhen fired a.0\nelse\nshow a\nend\ncount a.1"))
        self.same(play(sheet), wanted)
        deeds[0][2][0][1].append(["a", 3])
        deeds[1][4].append(["age"])
        deeds.append(["beats"])
        weave[1][2] = "...."
        self.same(play(sheet), wanted)
        self.same(play_far(sheet), wanted)
        self.assertEqual(len(wanted), 2)


if __name__ == "__main__":
    unittest.main()
