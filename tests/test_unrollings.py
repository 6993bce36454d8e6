"""Unrollings: point 62."""

import itertools
import random
import unittest

from firerest.scenes import Scene, all_ready
from firerest.shares import share
from firerest.unrollings import unrolled
from firerest.webs import Web
from tests.support import FAR, Case, pictures_of, random_scene, ring_lines, ring_scene, thread_lines


class UnrollingTest(Case):

    def check(self, scene, ways, shifts):
        """Check the lines and the states of an unrolled scene; return it."""
        found = self.ask(unrolled, scene, ways, shifts)
        self.assertIs(type(found), Scene)
        lines = set()
        for index, (a, b) in enumerate(scene.web.lines):
            for j in range(ways):
                r = (j + shifts[index]) % ways
                lines.add((a * ways + j, b * ways + r))
        self.same(found.web.size, scene.web.size * ways)
        self.same(found.web.lines, tuple(sorted(lines)))
        self.assertEqual(len(found.web.lines), ways * len(scene.web.lines))
        self.same(found.picture, tuple(scene.picture[place // ways] for place in range(found.web.size)))
        return found

    def check_runs(self, scene, ways, found):
        """Check that every copy does what its place does, and that the shares are the same."""
        for picture, other in zip(pictures_of(scene, 20), pictures_of(found, 20)):
            self.assertEqual(other, tuple(state for state in picture for _ in range(ways)))
        for place in range(found.web.size):
            self.same(share(found, place), share(scene, place // ways))

    def test_random_scenes(self):
        chance = random.Random(480)
        for _ in range(120):
            ways = chance.randint(1, 6)
            size = chance.randint(0, 60 // ways if chance.random() < 0.2 else 6)
            scene = random_scene(chance, size, chance.choice((size, 2 * size)))
            kind = chance.choice(((-1, 0, 1), range(-9, 10), (10 ** 30 + 1, -10 ** 30, 5, FAR), (0,)))
            shifts = [chance.choice(kind) for _ in scene.web.lines]
            found = self.check(scene, ways, shifts)
            if size <= 6:
                self.check_runs(scene, ways, found)

    def test_every_shift_of_a_ring(self):
        scene = ring_scene(3)
        for ways in range(1, 5):
            for shifts in itertools.product(range(-1, ways), repeat=3):
                self.check_runs(scene, ways, self.check(scene, ways, shifts))

    def test_by_hand(self):
        one = Scene(Web(2, [(0, 1)]), [1, 2])
        for shift, lines in ((0, ((0, 3), (1, 4), (2, 5))), (1, ((0, 4), (1, 5), (2, 3))),
                             (-1, ((0, 5), (1, 3), (2, 4))), (3, ((0, 3), (1, 4), (2, 5))),
                             (10 ** 30, ((0, 4), (1, 5), (2, 3))), (-10 ** 30, ((0, 5), (1, 3), (2, 4)))):
            self.same(self.check(one, 3, [shift]).web.lines, lines)
        self.same(self.check(one, 1, [10 ** 30 + 7]), one)
        # A ring of three that is unrolled twice with one shift is a ring of six.
        found = self.check(ring_scene(3), 2, (1, 0, 0))
        self.assertEqual(sorted(len(found.web.near(place)) for place in range(6)), [2] * 6)
        self.same(share(found, 0), (1, 3))

    def test_edges(self):
        for ways in range(1, 7):
            self.same(self.check(Scene(Web(0), []), ways, ()), Scene(Web(0), []))
            self.check(all_ready(Web(60 // ways)), ways, ())
            self.check(Scene(Web(10, ring_lines(10)), [1, 2] + [0] * 8), ways, [1] * 10)
        self.check(all_ready(Web(60, thread_lines(60))), 1, tuple(range(59)))

    def test_names_and_asking_again(self):
        scene = Scene(Web(2, [(0, 1)]), [0, 1])
        first = unrolled(ways=2, shifts=[1], scene=scene)
        self.assertNotEqual(unrolled(scene, 2, [0]).web.lines, first.web.lines)
        self.same(unrolled(scene, 2, (3,)), first)


if __name__ == "__main__":
    unittest.main()
