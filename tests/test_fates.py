"""Fates: points 32 and 33."""

import itertools
import random
import unittest

from firerest.fates import Fate, fates, is_silent
from firerest.far import far_counts
from firerest.rings import heights
from firerest.runs import run
from firerest.scenes import Scene, all_ready, beside
from firerest.shapes import distances
from firerest.webs import Web
from tests.support import FAR, Case, every_web, lead_of, near_of, pictures_of, pieces_of
from tests.support import next_picture, random_scenes, ring_lines, ring_scene, sum_of, thread_lines

NOTHING = Scene(Web(0), [])


def alone(scene, piece):
    """Return the states of a piece at the beats 0, 1, .. until they come back; an oracle.

    The second value is the beat at which the last ones stood before.
    """
    number = {place: index for index, place in enumerate(piece)}
    near = {number[a]: [number[b] for b in near_of(scene.web)[a]] for a in piece}
    states = tuple(scene.picture[place] for place in piece)
    along = []
    while states not in along:
        along.append(states)
        states = next_picture(near, states, ())
    return along + [states], along.index(states)


def firing_beats(along, index):
    """Return the beats of `along` at which a place fires."""
    return [beat for beat in range(1, len(along)) if along[beat][index] == 1]


class FatesTest(Case):

    def check_silent(self, fate, along):
        """Check the fields of a fate whose piece falls silent."""
        beats = [firing_beats(along, index) for index in range(len(fate.places))]
        self.same(fate.ring, ())
        self.same(fate.totals, tuple(len(row) for row in beats))
        self.same(fate.lasts, tuple(max(row, default=0) for row in beats))
        self.same(fate.last, max(fate.lasts))
        ready = [beat for beat in range(len(along)) if not any(along[beat])]
        self.same(fate.quiet, ready[0])
        most = max(fate.heights)
        self.same(fate.totals, tuple(most - height for height in fate.heights))

    def check_lasting(self, scene, fate):
        """Check the fields of a fate whose piece lasts."""
        near = near_of(scene.web)
        self.same((fate.heights, fate.totals, fate.lasts), ((), (), ()))
        self.assertIsNone(fate.last)
        self.assertIsNone(fate.quiet)
        self.assertIs(type(fate.ring), tuple)
        self.assertTrue(all(type(place) is int for place in fate.ring))
        self.assertGreater(len(fate.ring), 1)
        self.assertEqual(fate.ring[0], fate.ring[-1])
        self.assertTrue(set(fate.ring) <= set(fate.places))
        self.assertTrue(all(b in near[a] for a, b in zip(fate.ring, fate.ring[1:])))
        self.assertGreaterEqual(sum_of(lead_of, scene, fate.ring), 1)

    def check(self, scene):
        """Check all fates of a scene against runs that are left alone."""
        found = self.ask(fates, scene)
        self.same(tuple(fate.places for fate in found), tuple(pieces_of(scene.web)))
        silent = []
        for fate in found:
            self.assertIs(type(fate), Fate)
            along, first = alone(scene, fate.places)
            silent.append(not any(1 in states for states in along[first:]))
            self.assertIs(fate.silent, silent[-1])
            if fate.silent:
                self.same(fate.heights, heights(scene, fate.places[0]))
                self.check_silent(fate, along)
            else:
                self.assertIsNone(heights(scene, fate.places[0]))
                self.check_lasting(scene, fate)
        self.assertIs(is_silent(scene), all(silent))
        self.assertIs(is_silent(scene=scene), all(silent))
        return silent

    def test_all_small_scenes(self):
        for web in [web for size in range(4) for web in every_web(size)] + [Web(4, ring_lines(4))]:
            for picture in itertools.product(range(3), repeat=web.size):
                self.check(Scene(web, picture))

    def test_several_pieces(self):
        kinds = set()
        for scene in random_scenes(220, 150, 14) + [ring_scene(4, 3, 5), ring_scene(3, 3)]:
            kinds |= {(one, two) for one, two in itertools.combinations(self.check(scene), 2)}
        self.assertEqual(len(kinds), 4)

    def test_large_webs(self):
        for scene in random_scenes(221, 15, 60):
            self.check(scene)
        self.check(ring_scene(60))
        self.check(Scene(Web(60, ring_lines(60)), [1, 2] * 30))
        self.check(Scene(Web(60, thread_lines(60)), [1] + [0] * 59))
        self.check(Scene(Web(60, list(itertools.combinations(range(60), 2))), [1] * 20 + [0] * 40))

    def test_heights_and_distances(self):
        chance = random.Random(222)
        for _ in range(60):
            size = chance.randint(1, 60)
            lines = [(k, chance.randrange(k)) for k in range(1, size)]
            scene = Scene(Web(size, lines), [chance.randrange(3) for _ in range(size)])
            fate = fates(scene)[0]
            self.assertIs(fate.silent, True)
            most = max(heights(scene, 0))
            top = [place for place, height in enumerate(heights(scene, 0)) if height == most]
            self.same(fate.lasts, distances(scene.web, top))
            self.same(fate.totals, far_counts(scene, FAR))
            self.assertIs(any(run(scene, fate.quiet).picture), False)
            if fate.quiet > 0:
                self.assertIs(any(run(scene, fate.quiet - 1).picture), True)

    def test_single_places(self):
        scene = Scene(Web(3), [0, 1, 2])
        found = fates(scene)
        for fate, place, quiet in zip(found, range(3), (0, 2, 1)):
            self.same((fate.places, fate.heights, fate.ring), ((place,), (0,), ()))
            self.same((fate.totals, fate.lasts, fate.last, fate.quiet), ((0,), (0,), 0, quiet))
            self.assertIs(fate.silent, True)

    def test_pieces_without_firings(self):
        for picture, quiet in (((0, 0), 0), ((2, 2), 1), ((1, 1), 2), ((0, 2), 1), ((1, 2), 2)):
            fate = fates(Scene(Web(2, [(0, 1)]), picture))[0]
            self.same((fate.totals, fate.lasts, fate.last, fate.quiet), ((0, 0), (0, 0), 0, quiet))
        fate = fates(Scene(Web(2, [(0, 1)]), (0, 1)))[0]
        self.same((fate.totals, fate.lasts, fate.last, fate.quiet), ((1, 0), (1, 0), 1, 3))

    def test_named_scenes(self):
        self.same(fates(NOTHING), ())
        self.assertIs(is_silent(NOTHING), True)
        scene = beside(ring_scene(4), all_ready(Web(2, [(0, 1)])))
        self.same([fate.silent for fate in fates(scene)], [False, True])
        self.assertIs(is_silent(scene), False)
        self.assertIs(is_silent(beside(all_ready(Web(2)), ring_scene(5))), False)
        self.same(fates(scene=scene)[1].places, (4, 5))


if __name__ == "__main__":
    unittest.main()
