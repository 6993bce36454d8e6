"""Weaving: points 65 and 70."""

import random
import unittest

from firerest.reading import read_sheet
from firerest.sheets import Sheet
from firerest.weaving import Woven, woven
from tests.sheet_support import World, random_weave
from tests.support import Case, ring_lines, thread_lines


def pairs(lines):
    """Return the lines as they stand in a web."""
    return tuple(sorted(tuple(sorted(line)) for line in lines))


class WeavingTest(Case):

    def check(self, text):
        """Check the scene and the names of a sheet; return the scene."""
        sheet = read_sheet(text)
        found = woven(sheet)
        self.assertIs(type(found), Woven)
        world = World(sheet.weave)
        self.same(found.scene.web.size, len(world.picture))
        self.same(found.scene.web.lines, tuple(sorted(world.lines)))
        self.same(found.scene.picture, world.picture)
        self.same(found.names, tuple((name, first, many) for name, (first, many) in world.names.items()))
        again = woven(sheet=Sheet([list(row) for row in sheet.weave], []))
        self.same((again.names, again.scene), (found.names, found.scene))
        return found.scene

    def test_lines_of_each_declaration(self):
        for text, size, lines in (
                ("thread a 1", 1, ()), ("thread a 2", 2, ((0, 1),)), ("thread a 60", 60, thread_lines(60)),
                ("ring a 3", 3, ((0, 1), (1, 2), (0, 2))), ("ring a 60", 60, ring_lines(60)),
                ("star a 1", 2, ((0, 1),)), ("star a 4", 5, ((0, 1), (0, 2), (0, 3), (0, 4))),
                ("star a 59", 60, [(0, place) for place in range(1, 60)]), ("full a 1", 1, ()),
                ("full a 2", 2, ((0, 1),)), ("full a 4", 4, ((0, 1), (0, 2), (0, 3), (1, 2), (1, 3), (2, 3))),
                ("full a 60", 60, [(a, b) for b in range(60) for a in range(b)]),
                ("sheet a 1 1", 1, ()), ("sheet a 1 3", 3, ((0, 1), (1, 2))), ("sheet a 3 1", 3, ((0, 1), (1, 2))),
                ("sheet a 2 3", 6, ((0, 1), (1, 2), (3, 4), (4, 5), (0, 3), (1, 4), (2, 5))),
                ("sheet a 3 2", 6, ((0, 1), (2, 3), (4, 5), (0, 2), (2, 4), (1, 3), (3, 5))),
                ("tube a 1 3", 3, ((0, 1), (1, 2), (0, 2))),
                ("tube a 2 3", 6, ((0, 1), (1, 2), (0, 2), (3, 4), (4, 5), (3, 5), (0, 3), (1, 4), (2, 5)))):
            scene = self.check(text)
            self.same(scene.web.size, size)
            self.same(scene.web.lines, pairs(lines))
            self.same(scene.picture, (0,) * size)
            moved = self.check("thread b 2\n" + text) if size < 59 else None
            if moved:
                self.same(moved.web.lines, ((0, 1),) + pairs((a + 2, b + 2) for a, b in lines))

    def test_all_sizes(self):
        for number in range(1, 61):
            self.check(f"thread a {number}")
            self.check(f"full a {number}")
            self.check(f"ring a {max(3, number)}")
            self.check(f"star a {min(59, number)}")
            for width in range(1, 60 // number + 1):
                self.check(f"sheet a {number} {width}")
                if width > 2:
                    self.check(f"tube a {number} {width}")

    def test_tie_drop_and_states(self):
        scene = self.check("thread a 3\ntie a.0 a.2\ntie a.2 a.0\ntie a.0 a.1")
        self.same(scene.web.lines, ((0, 1), (0, 2), (1, 2)))
        scene = self.check("thread a 3\nstates a *o*\ndrop a.1")
        self.same((scene.web.lines, scene.picture), ((), (1, 0, 1)))
        scene = self.check("thread a 3\nstates a *o*\ndrop a.1\ntie a.1 a.0\nstates a oo.\nthread b 1\ntie b.0 a.2")
        self.same((scene.web.lines, scene.picture), (((0, 1), (2, 3)), (2, 2, 0, 0)))
        scene = self.check("ring a 4\nstates a ****\nstates a .*o.\ndrop a.3\ndrop a.3")
        self.same((scene.web.lines, scene.picture), (((0, 1), (1, 2)), (0, 1, 2, 0)))
        scene = self.check("ring a 3\nring b 3\ntie a.0 b.0\nstates b *o.\ndrop b.1\ndrop a.0\nstates a o*.")
        self.same((scene.web.lines, scene.picture), (((1, 2), (3, 5)), (2, 1, 0, 1, 0, 0)))

    def test_names(self):
        self.same(woven(read_sheet("star z 2\nthread a 1\ntube do 2 3\nring b 3")).names,
                  (("z", 0, 3), ("a", 3, 1), ("do", 4, 6), ("b", 10, 3)))

    def test_nothing(self):
        for text in ("", "do", "do\nrun 3"):
            self.same(self.check(text).web.size, 0)
            self.same(woven(read_sheet(text)).names, ())

    def test_random_weaves(self):
        chance = random.Random(520)
        for _ in range(300):
            self.check("\n".join(random_weave(chance, chance.choice((20, 60)))[0]))

    def test_sheets_from_lists(self):
        weave = [["thread", "a", 2], ["tie", ["a", 0], ["a", 1]], ["states", "a", "*."]]
        sheet = Sheet(weave, [])
        first = woven(sheet)
        weave[0][2] = 5
        weave[2][2] = "oo"
        self.same(woven(Sheet([["full", "a", 3]], [])).scene.web.size, 3)
        self.same(woven(sheet).scene, first.scene)
        self.same(first.scene.picture, (1, 0))


if __name__ == "__main__":
    unittest.main()
