"""Row lists and long walks: point 31."""

import itertools
import random
import unittest

from firerest.far import far_counts
from firerest.longwalks import long_walk, row_facts
from firerest.scenes import Scene, all_ready, beside, scene_of_text
from firerest.webs import Web
from tests.support import FAR, NO_PLACES, Case, counts_of, lead_of, near_of, pictures_of
from tests.support import random_scene, random_scenes, ring_lines, ring_scene, thread_lines

NOTHING = Scene(Web(0), [])
FAR_BEATS = (FAR, FAR - 1, 10 ** 39 + 12345, 2 ** 132, 2 ** 132 - 1)


def facts_of(scene, rows):
    """Return ("facts", facts) or ("wrong", index) by the words of the point."""
    near = near_of(scene.web)
    found = []
    for index, row in enumerate(rows):
        word, numbers = row[0], list(row[1:])
        facts = None
        if word == "stay" and len(numbers) == 1 and numbers[0] in near:
            facts = (numbers[0], numbers[0], 1, 0)
        if word == "step" and len(numbers) == 2 and numbers[1] in near.get(numbers[0], ()):
            facts = (numbers[0], numbers[1], 1, lead_of(scene, *numbers))
        if word == "both" and len(numbers) == 2 and all(0 <= k < index for k in numbers):
            one, two = found[numbers[0]], found[numbers[1]]
            if one[1] == two[0]:
                facts = (one[0], two[1], one[2] + two[2], one[3] + two[3])
        if facts is None:
            return ("wrong", index)
        found.append(facts)
    return ("facts", tuple(found))


def random_rows(chance, scene, many):
    """Return a row list of the scene."""
    size, rows, ends = scene.web.size, [], []
    while len(rows) < many:
        place = chance.randrange(size)
        near = near_of(scene.web)[place]
        pairs = [(i, j) for i in range(len(ends)) for j in range(len(ends)) if ends[i][1] == ends[j][0]]
        if pairs and chance.random() < 0.6:
            i, j = chance.choice(pairs)
            rows.append(("both", i, j))
            ends.append((ends[i][0], ends[j][1]))
        elif near and chance.random() < 0.7:
            rows.append(("step", place, chance.choice(near)))
            ends.append(rows[-1][1:])
        else:
            rows.append(("stay", place))
            ends.append((place, place))
    return rows


class RowFactsTest(Case):

    def check(self, scene, rows):
        """Check the facts, or the error, of the rows."""
        kind, value = facts_of(scene, rows)
        if kind == "facts":
            self.same(self.ask(row_facts, scene, rows), value)
        else:
            self.fails("BadRow", (value,), row_facts, scene, rows)
        return kind

    def test_row_lists(self):
        chance = random.Random(210)
        for scene in random_scenes(211, 60, 12):
            if scene.web.size > 0:
                rows = random_rows(chance, scene, chance.randint(0, 25))
                self.assertEqual(self.check(scene, rows), "facts")
        self.same(row_facts(rows=[("stay", 0)], scene=all_ready(Web(1))), ((0, 0, 1, 0),))
        self.same(self.ask(row_facts, NOTHING, []), ())
        self.same(self.ask(row_facts, all_ready(Web(2)), ()), ())

    def test_spoiled_row_lists(self):
        chance = random.Random(212)
        kinds = []
        for scene in random_scenes(213, 80, 7):
            if scene.web.size == 0:
                continue
            for _ in range(10):
                rows = random_rows(chance, scene, 12)
                index = chance.randrange(12)
                row = list(rows[index])
                at = chance.randrange(len(row))
                if at > 0:
                    row[at] = chance.choice((-1, -2, 0, 1, 3, index, index + 1, 6, 7, 12, FAR, -FAR))
                else:
                    row[0] = chance.choice(("stay", "step", "both", "Stay", "", "stays"))
                rows[index] = tuple(row)
                kinds.append(self.check(scene, rows))
        self.assertGreater(kinds.count("facts"), 10)
        self.assertGreater(kinds.count("wrong"), 100)

    def test_all_short_rows(self):
        scene = Scene(Web(3, [(0, 1), (1, 2)]), [0, 1, 2])
        start = [("step", 0, 1), ("step", 1, 2), ("stay", 2), ("both", 0, 1)]
        numbers = (-1, 0, 1, 2, 3, 4, 5)
        for word in ("stay", "step", "both", "bot", "", "stay "):
            for many in range(4):
                for chosen in itertools.product(numbers, repeat=many):
                    row = (word,) + chosen
                    if many < 3 or chosen[0] == 1:
                        self.check(scene, start + [row] + [("stay", 1)])
                        self.check(scene, [row])

    def test_named_faults(self):
        scene = Scene(Web(3, [(0, 1), (1, 2)]), [0, 1, 0])
        good = [("step", 0, 1), ("stay", 1), ("both", 0, 1)]
        self.same(row_facts(scene, good), ((0, 1, 1, 1), (1, 1, 1, 0), (0, 1, 2, 1)))
        for row in (("walk", 0, 1), ("stay",), ("step",), ("both",), ("stay", 0, 0), ("step", 0),
                    ("step", 0, 1, 2), ("both", 0), ("both", 0, 1, 1), ("stay", 3), ("stay", -1),
                    ("step", 0, 2), ("step", 0, 0), ("step", -1, 0), ("step", 2, 3), ("step", 3, 2),
                    ("both", -1, 1), ("both", -3, -2), ("both", 0, -1), ("both", 3, 1),
                    ("both", 0, 3), ("both", 0, 4), ("both", 1, 0), ("both", 0, 0), ("both", FAR, 0),
                    ("stay", FAR), ("step", -FAR, 1)):
            self.fails("BadRow", (3,), row_facts, scene, good + [row])
            self.fails("BadRow", (3,), row_facts, scene, good + [row, ("stay", 7)])
        self.fails("BadRow", (0,), row_facts, scene, [("both", 0, 0)])
        self.fails("BadRow", (0,), row_facts, NOTHING, [("stay", 0)])

    def test_far_row_lists(self):
        scene = Scene(Web(2, [(0, 1)]), [0, 1])
        rows = [("stay", 0)] + [("both", k, k) for k in range(200)]
        self.same(self.ask(row_facts, scene, rows)[-1], (0, 0, 2 ** 200, 0))
        rows = [("step", 0, 1), ("step", 1, 0), ("both", 0, 1)] + [("both", k, k) for k in range(2, 99)]
        self.same(row_facts(scene, rows)[-1], (0, 0, 2 ** 98, 0))


class LongWalkTest(Case):

    def check(self, scene, place, beats, fires):
        """Check the last row of a long walk."""
        rows = long_walk(scene, place, beats)
        self.same(long_walk(scene, place, beats), rows)
        self.assertIs(type(rows), tuple)
        self.assertTrue(all(type(row) is tuple for row in rows))
        kind, facts = facts_of(scene, rows)
        self.assertEqual(kind, "facts")
        if beats == 0:
            self.assertEqual(rows, ())
        else:
            first, _, many, gain = facts[-1]
            self.assertEqual((first, many, gain), (place, beats, fires))
            self.same(row_facts(scene, rows), facts)
        if scene.web.size <= 8:
            self.assertLessEqual(len(rows), 10000)

    def check_all(self, scene, beats):
        """Check long walks from all places."""
        many = far_counts(scene, beats)
        for place in range(scene.web.size):
            self.check(scene, place, beats, many[place])

    def test_small_beats(self):
        for scene in random_scenes(214, 50, 10) + [ring_scene(4, 3), all_ready(Web(3))]:
            for beats in (0, 1, 2, 3, 5, 8, 13, 40):
                many = counts_of(pictures_of(scene, beats))
                for place in range(scene.web.size):
                    self.check(scene, place, beats, many[place])

    def test_all_scenes_of_small_webs(self):
        for web in (Web(3, ring_lines(3)), Web(4, ring_lines(4)), Web(4, ring_lines(3) + [(2, 3)])):
            for index, picture in enumerate(itertools.product(range(3), repeat=web.size)):
                self.check_all(Scene(web, picture), (7, FAR)[index % 4 == 0])

    def test_far_beats(self):
        for index, scene in enumerate(random_scenes(215, 60, 8)):
            self.check_all(scene, FAR_BEATS[index % 5])
        for scene in (ring_scene(8), ring_scene(3, 5), all_ready(Web(8, thread_lines(8)))):
            for beats in FAR_BEATS:
                self.check_all(scene, beats)

    def test_many_waves(self):
        chance = random.Random(216)
        for _ in range(30):
            size = chance.randint(3, 8)
            lines = ring_lines(size) + [chance.sample(range(size), 2) for _ in range(chance.randint(0, 4))]
            scene = Scene(Web(size, lines), [chance.randrange(3) for _ in range(size)])
            self.check_all(scene, chance.choice(FAR_BEATS))

    def test_large_webs(self):
        chance = random.Random(217)
        for scene in (random_scene(chance, 60, 70), random_scene(chance, 60, 200), ring_scene(60)):
            for beats in (FAR, 3000, 77):
                many = far_counts(scene, beats)
                for place in (0, 7, 31, 59):
                    self.check(scene, place, beats, many[place])

    def test_pieces_that_come_back_late(self):
        text = ("..*o.*o..*o." "o..*o.*o.*o....." "*o.*o.*o..*o.*o......*o.*o.*o..*")
        lines = ring_lines(12) + ring_lines(20, 12) + ring_lines(28, 32) + [(0, 12), (13, 33)]
        scene = scene_of_text(Web(60, lines), text)
        for beats in FAR_BEATS + (552, 1000):
            many = far_counts(scene, beats)
            for place in (0, 40):
                self.check(scene, place, beats, many[place])

    def test_names_and_no_place(self):
        scene = beside(ring_scene(4), all_ready(Web(2)))
        self.same(long_walk(beats=9, place=1, scene=scene), long_walk(scene, 1, 9))
        for place in NO_PLACES + (6,):
            for beats in (0, 1, FAR):
                self.fails("NoPlace", (place,), long_walk, scene, place, beats)
        self.fails("NoPlace", (0,), long_walk, NOTHING, 0, 0)


if __name__ == "__main__":
    unittest.main()
