"""Leads, gaps and their sums: points 20, 21 and 22."""

import itertools
import random
import unittest

from firerest.books import Book
from firerest.leads import gap, gap_sum, lead, lead_sum
from firerest.runs import counts, run, turns
from firerest.scenes import Scene
from firerest.webs import Web
from tests.support import FAR, NO_PLACES, Case, gap_of, lead_of, near_of, random_pokes
from tests.support import random_scenes, ring_lines, rings_within, sum_of

NOTHING = Scene(Web(0), [])


class LeadTest(Case):

    def test_all_states(self):
        leads = {(0, 0): 0, (0, 1): 1, (0, 2): 0, (1, 0): -1, (1, 1): 0, (1, 2): 0,
                 (2, 0): 0, (2, 1): 0, (2, 2): 0}
        gaps = {(0, 0): 0, (0, 1): 1, (0, 2): -1, (1, 0): -1, (1, 1): 0, (1, 2): 1,
                (2, 0): 1, (2, 1): -1, (2, 2): 0}
        for a, b in ((0, 1), (2, 1), (1, 3)):
            for here, there in itertools.product(range(3), repeat=2):
                for rest in range(3):
                    picture = [rest] * 4
                    picture[a], picture[b] = here, there
                    scene = Scene(Web(4, [(a, b)]), picture)
                    self.same(lead(scene, a, b), leads[here, there])
                    self.same(lead(scene, b, a), -leads[here, there])
                    self.same(gap(scene, a, b), gaps[here, there])
                    self.same(gap(scene, b, a), -gaps[here, there])
                    self.same(lead(scene=scene, a=a, b=b), leads[here, there])
                    self.same(gap(b=b, a=a, scene=scene), gaps[here, there])

    def test_all_lines(self):
        for scene in random_scenes(60, 60, 60):
            for a, b in scene.web.lines:
                self.same(lead(scene, a, b), lead_of(scene, a, b))
                self.same(lead(scene, b, a), lead_of(scene, b, a))
                self.same(gap(scene, a, b), gap_of(scene, a, b))
                self.same(gap(scene, b, a), gap_of(scene, b, a))

    def test_no_line(self):
        for scene in random_scenes(61, 20, 9):
            near = near_of(scene.web)
            for a in range(scene.web.size):
                for b in range(scene.web.size):
                    if b not in near[a]:
                        self.fails("NoLine", (a, b), lead, scene, a, b)
                        self.fails("NoLine", (a, b), gap, scene, a, b)

    def test_no_place(self):
        scene = Scene(Web(4, ring_lines(4)), [0, 1, 2, 0])
        for function in (lead, gap):
            for place in NO_PLACES + (4, 5, -4, -3, FAR):
                self.fails("NoPlace", (place,), function, scene, place, 1)
                self.fails("NoPlace", (place,), function, scene, 1, place)
                self.fails("NoPlace", (place,), function, scene, place, place)
                self.fails("NoPlace", (place,), function, scene, place, 17)
                self.fails("NoPlace", (17,), function, scene, 17, place)
            self.fails("NoPlace", (0,), function, NOTHING, 0, 0)
            self.fails("NoPlace", (1,), function, NOTHING, 1, 0)
            self.fails("NoLine", (0, 2), function, scene, 0, 2)
            self.fails("NoLine", (2, 0), function, scene, 2, 0)
            self.fails("NoLine", (3, 3), function, scene, 3, 3)


class SumsTest(Case):

    def test_random_walks(self):
        chance = random.Random(62)
        for scene in random_scenes(63, 60, 40):
            near = near_of(scene.web)
            for place in range(scene.web.size):
                walk = [place]
                while near[place] and len(walk) < chance.randint(1, 40):
                    walk.append(chance.choice(near[walk[-1]]))
                self.same(self.ask(lead_sum, scene, walk), sum_of(lead_of, scene, walk))
                self.same(self.ask(gap_sum, scene, walk), sum_of(gap_of, scene, walk))
                self.same(lead_sum(scene, (place,)), 0)
                self.same(gap_sum(scene, [place]), 0)

    def test_names(self):
        scene = Scene(Web(2, [(0, 1)]), [0, 1])
        self.same(lead_sum(walk=[0, 1, 0, 1], scene=scene), 1)
        self.same(gap_sum(scene=scene, walk=(1, 0)), -1)

    def test_not_a_walk(self):
        scene = Scene(Web(5, ring_lines(4)), [0, 1, 2, 0, 1])
        for function in (lead_sum, gap_sum):
            self.fails("NotAWalk", (0,), function, scene, ())
            self.fails("NotAWalk", (2,), function, scene, (0, 1, 3))
            self.fails("NotAWalk", (1,), function, scene, (0, 0))
            self.fails("NotAWalk", (1,), function, scene, (0, 2, 0, 2))
            self.fails("NotAWalk", (1,), function, scene, (4, 4))
            self.fails("NotAWalk", (3,), function, scene, (0, 1, 2, 4, 9))
            self.fails("NotAWalk", (0,), function, NOTHING, ())
            self.fails("NotAWalk", (0,), function, NOTHING, (0,))
            good = [0, 1, 2, 1, 0, 3, 2, 3]
            for place in NO_PLACES + (5, 6, -4, -5, 4, FAR):
                for index in range(1, 9):
                    for rest in ([], [place], [9, -9], good[index:]):
                        walk = good[:index] + [place] + rest
                        self.fails("NotAWalk", (index,), function, scene, walk)
                if place != 4:
                    for rest in ([], [place], [0, 1]):
                        self.fails("NotAWalk", (0,), function, scene, [place] + rest)

    def test_all_small_sequences(self):
        scene = Scene(Web(4, [(0, 1), (1, 2), (0, 2)]), [1, 0, 2, 0])
        for many in range(5):
            for walk in itertools.product(range(-1, 5), repeat=many):
                fault = None if walk else 0
                for index, place in enumerate(walk):
                    good = 0 <= place < 4
                    if good and index > 0:
                        line = tuple(sorted((walk[index - 1], place)))
                        good = line in scene.web.lines
                    if not good and fault is None:
                        fault = index
                if fault is None:
                    self.same(lead_sum(scene, walk), sum_of(lead_of, scene, walk))
                    self.same(gap_sum(scene, walk), sum_of(gap_of, scene, walk))
                else:
                    self.fails("NotAWalk", (fault,), lead_sum, scene, walk)
                    self.fails("NotAWalk", (fault,), gap_sum, scene, walk)


class KeptLeadsTest(Case):

    def test_leads_and_gaps_in_runs(self):
        chance = random.Random(64)
        for scene in random_scenes(65, 25, 12):
            book = Book(random_pokes(chance, chance.randint(0, 20), 25, scene.web.size))
            for beats in range(26):
                later = run(scene, beats, book)
                many, changes = counts(scene, beats, book), turns(scene, beats, book)
                for line in scene.web.lines:
                    for a, b in (line, line[::-1]):
                        self.same(lead(later, a, b), lead(scene, a, b) + many[b] - many[a])
                        self.same(gap(later, a, b), gap(scene, a, b) + changes[b] - changes[a])

    def test_sums_of_rings(self):
        chance = random.Random(66)
        for scene in random_scenes(67, 20, 7):
            book = Book(random_pokes(chance, 8, 12, scene.web.size))
            rings = rings_within(scene.web, 5)
            for ring in chance.sample(rings, min(40, len(rings))):
                total = lead_sum(scene, ring)
                for beats in (0, 1, 2, 5, 12, 30):
                    later = run(scene, beats, book)
                    self.same(lead_sum(later, ring), total)
                    self.same(gap_sum(later, ring), 3 * total)


if __name__ == "__main__":
    unittest.main()
