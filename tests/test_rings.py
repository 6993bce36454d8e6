"""Parents, basic rings and heights: points 23 and 24."""

import itertools
import random
import unittest

from firerest.rings import basic_rings, forest, heights, ring_sums, uneven_ring
from firerest.runs import run
from firerest.scenes import Scene, all_ready, beside
from firerest.webs import Web, is_ring
from tests.support import FAR, NO_PLACES, Case, every_web, lead_of, near_of, pieces_of, random_scenes
from tests.support import random_web, ring_lines, ring_scene, sum_of, thread_lines

NOTHING = Scene(Web(0), [])


def parents_of(web):
    """Return the parents by the rounds of the point."""
    near = near_of(web)
    parents = {}
    for piece in pieces_of(web):
        parents[piece[0]] = None
        found = [piece[0]]
        for place in found:
            for other in near[place]:
                if other not in parents:
                    parents[other] = place
                    found.append(other)
    return tuple(parents[place] for place in range(web.size))


def rings_of(web):
    """Return the basic rings: in a tree there is but one way from `a` to `b`."""
    parents = parents_of(web)
    tree = {place: [] for place in range(web.size)}
    for place, parent in enumerate(parents):
        if parent is not None:
            tree[place].append(parent)
            tree[parent].append(place)
    found = []
    for a, b in web.lines:
        if parents[a] != b and parents[b] != a:
            ways = {a: (a,)}
            todo = [a]
            for place in todo:
                for other in tree[place]:
                    if other not in ways:
                        ways[other] = ways[place] + (other,)
                        todo.append(other)
            found.append(ways[b] + (a,))
    return tuple(found)


def some_webs():
    """Return webs of one and of several pieces."""
    chance = random.Random(70)
    found = [Web(0), Web(1), Web(7), Web(60, ring_lines(60)), Web(60, thread_lines(60)),
             Web(20, list(itertools.combinations(range(20), 2)))]
    for size in range(5):
        found += every_web(size)
    for _ in range(60):
        size = chance.randint(1, 60)
        found.append(random_web(chance, size, chance.choice((size // 2, size, 2 * size))))
    return found


def some_scenes():
    """Return scenes with silent and lasting pieces."""
    chance = random.Random(71)
    found = random_scenes(72, 120, 14) + random_scenes(73, 20, 60)
    for scene in random_scenes(74, 40, 25):
        found.append(run(scene, 6))
    for _ in range(20):
        size = chance.randint(3, 15)
        found.append(beside(ring_scene(chance.randint(3, 12)), all_ready(Web(size, ring_lines(size)))))
    return found


class ForestTest(Case):

    def test_forest(self):
        for web in some_webs():
            lines = web.lines
            self.same(forest(web), parents_of(web))
            self.same(forest(web), parents_of(web))
            self.same(web.lines, lines)
        self.same(forest(web=Web(3, [(0, 2), (1, 2)])), (None, 2, 0))

    def test_order_of_finding(self):
        web = Web(6, [(0, 5), (0, 4), (4, 1), (5, 1), (4, 3), (5, 2), (1, 2), (3, 2)])
        self.same(forest(web), (None, 4, 5, 4, 0, 0))
        web = Web(6, [(0, 1), (0, 5), (1, 3), (5, 2), (2, 4), (3, 4)])
        self.same(forest(web), (None, 0, 5, 1, 3, 0))

    def test_basic_rings(self):
        for web in some_webs():
            wanted = rings_of(web)
            self.same(basic_rings(web), wanted)
            self.same(basic_rings(web), wanted)
        self.same(basic_rings(web=Web(3, ring_lines(3))), ((1, 0, 2, 1),))
        self.same(basic_rings(Web(0)), ())
        self.same(basic_rings(Web(9, thread_lines(9))), ())
        self.same(basic_rings(Web(6, ring_lines(3, 3))), ((4, 3, 5, 4),))

    def test_ring_sums(self):
        for scene in some_scenes():
            wanted = tuple(sum_of(lead_of, scene, ring) for ring in rings_of(scene.web))
            self.same(ring_sums(scene), wanted)
            self.same(ring_sums(scene=scene), wanted)
        self.same(ring_sums(NOTHING), ())


class HeightsTest(Case):

    def wanted(self, scene, piece):
        """Return the heights of a piece, by carrying leads on, or None."""
        near = near_of(scene.web)
        found = {piece[0]: 0}
        todo = [piece[0]]
        for place in todo:
            for other in near[place]:
                if other not in found:
                    found[other] = found[place] + lead_of(scene, place, other)
                    todo.append(other)
        for place in piece:
            for other in near[place]:
                if lead_of(scene, place, other) != found[other] - found[place]:
                    return None
        return tuple(found[place] - min(found.values()) for place in piece)

    def check_ring(self, scene, piece, ring):
        """Check that the ring shows that the piece has no heights."""
        self.assertIs(type(ring), tuple)
        self.assertTrue(all(type(place) is int for place in ring))
        self.assertIs(is_ring(scene.web, ring), True)
        self.assertTrue(set(ring) <= set(piece))
        self.assertEqual(len(set(ring)), len(ring) - 1)
        self.assertGreaterEqual(sum_of(lead_of, scene, ring), 1)

    def test_heights_and_uneven_rings(self):
        kinds = set()
        for scene in some_scenes():
            kept = (scene.web.lines, scene.picture)
            for piece in pieces_of(scene.web):
                wanted = self.wanted(scene, piece)
                kinds.add((wanted is None, len(pieces_of(scene.web)) > 1))
                for place in piece:
                    self.same(heights(scene, place), wanted)
                    ring = uneven_ring(scene, place)
                    if wanted is None:
                        self.check_ring(scene, piece, ring)
                    else:
                        self.assertIsNone(ring)
                    self.same(uneven_ring(scene, place), ring)
                    self.same(heights(scene, place), wanted)
            self.same((scene.web.lines, scene.picture), kept)
        self.assertEqual(len(kinds), 4)

    def test_all_small_scenes(self):
        for web in every_web(4)[::3] + [Web(4, ring_lines(4)), Web(4, ring_lines(3))]:
            for picture in itertools.product(range(3), repeat=4):
                scene = Scene(web, picture)
                for piece in pieces_of(web):
                    wanted = self.wanted(scene, piece)
                    self.same(heights(scene, piece[-1]), wanted)
                    ring = uneven_ring(scene, piece[-1])
                    self.assertIs(ring is None, wanted is not None)
                    if ring is not None:
                        self.check_ring(scene, piece, ring)

    def test_named_scenes(self):
        scene = Scene(Web(7, thread_lines(3) + ring_lines(4, 3)), [0, 1, 0, 2, 1, 0, 0])
        self.same(heights(scene, 2), (0, 1, 0))
        self.assertIsNone(uneven_ring(scene, 0))
        self.assertIsNone(heights(scene, 3))
        self.check_ring(scene, (3, 4, 5, 6), uneven_ring(scene, 6))
        self.assertGreater(sum_of(lead_of, scene, uneven_ring(scene, 3)), 0)
        self.same(heights(place=1, scene=scene), (0, 1, 0))
        self.assertIsNone(uneven_ring(place=1, scene=scene))
        self.same(heights(Scene(Web(3), [1, 1, 2]), 1), (0,))
        self.same(heights(Scene(Web(2, [(0, 1)]), [0, 1]), 0), (0, 1))
        self.same(heights(Scene(Web(2, [(0, 1)]), [1, 0]), 0), (1, 0))

    def test_both_ways_round(self):
        for size in range(3, 20):
            wave = [1, 2] + [0] * (size - 2)
            for picture in (wave, wave[::-1], wave[1:] + wave[:1]):
                scene = Scene(Web(size, ring_lines(size)), picture)
                self.assertIsNone(heights(scene, size - 1))
                self.check_ring(scene, tuple(range(size)), uneven_ring(scene, size // 2))

    def test_no_place(self):
        scene = ring_scene(4)
        for function in (heights, uneven_ring):
            for place in NO_PLACES + (4, 5, -4, FAR):
                self.fails("NoPlace", (place,), function, scene, place)
            self.fails("NoPlace", (0,), function, NOTHING, 0)
            self.fails("NoPlace", (3,), function, all_ready(Web(3)), 3)


if __name__ == "__main__":
    unittest.main()
