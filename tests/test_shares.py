"""Shares and their papers: points 34 and 35."""

import itertools
import math
import random
import unittest

from firerest.blocks import blocks
from firerest.far import far_counts
from firerest.scenes import Scene, all_ready, beside, part
from firerest.shares import SharePaper, are_slopes, is_share_ring, share, share_paper
from firerest.webs import Web
from tests.support import FAR, NO_PLACES, Case, every_web, lead_of, near_of, pieces_of
from tests.support import random_scene, random_scenes, ring_lines, ring_scene, rings_within, sum_of
from tests.support import thread_lines

NOTHING = Scene(Web(0), [])


def greatest(pairs):
    """Return the greatest of the fractions, in lowest terms."""
    best = (0, 1)
    for p, q in pairs:
        if p * best[1] > best[0] * q:
            best = (p, q)
    common = math.gcd(*best)
    return best[0] // common, best[1] // common


def share_of(scene, piece):
    """Return the greatest share of all rings of a piece; an oracle.

    A ring that passes a place twice is made of two rings, one of which has at
    least its share: so rings with at most as many steps as places will do.
    """
    near = near_of(scene.web)
    found = []
    for start in piece:
        best = {start: 0}
        for length in range(1, len(piece) + 1):
            fresh = {}
            for place, total in best.items():
                for other in near[place]:
                    more = total + lead_of(scene, place, other)
                    fresh[other] = max(more, fresh.get(other, more))
            best = fresh
            if start in best:
                found.append((best[start], length))
    return greatest(found)


def slopes_hold(scene, piece, p, q, slopes):
    """Tell whether these are slopes, by the words of the point."""
    if len(slopes) != len(piece):
        return False
    slope = dict(zip(piece, slopes))
    return all(q * lead_of(scene, a, b) - p <= slope[a] - slope[b]
               for a in piece for b in near_of(scene.web)[a])


def ring_holds(scene, p, q, ring):
    """Tell whether this is a ring with the share, by the words of the points."""
    near = near_of(scene.web)
    if len(ring) < 2 or ring[0] != ring[-1] or any(place not in near for place in ring):
        return False
    if any(b not in near[a] for a, b in zip(ring, ring[1:])):
        return False
    return sum_of(lead_of, scene, ring) * q == p * (len(ring) - 1)


def some_scenes():
    """Return scenes with silent and with lasting pieces."""
    chance = random.Random(230)
    found = random_scenes(231, 80, 12) + random_scenes(232, 8, 40)
    for _ in range(40):
        size = chance.randint(3, 14)
        lines = ring_lines(size) + [chance.sample(range(size), 2) for _ in range(chance.randint(0, 5))]
        found.append(Scene(Web(size, lines), [chance.randrange(3) for _ in range(size)]))
    return found + [ring_scene(4, 3), ring_scene(60), all_ready(Web(5)), NOTHING]


class ShareTest(Case):

    def test_against_all_rings(self):
        found = set()
        for scene in some_scenes():
            for piece in pieces_of(scene.web):
                wanted = share_of(scene, piece)
                found.add(wanted)
                for place in piece[:2] + piece[-1:]:
                    self.same(share(scene, place), wanted)
                self.assertLessEqual(0, wanted[0])
                self.assertLessEqual(3 * wanted[0], wanted[1])
        self.assertGreater(len(found), 6)

    def test_all_small_scenes(self):
        for web in [Web(1)] + every_web(2) + every_web(3):
            rings = rings_within(web, 6)
            for picture in itertools.product(range(3), repeat=web.size):
                scene = Scene(web, picture)
                for piece in pieces_of(web):
                    wanted = greatest([(sum_of(lead_of, scene, ring), len(ring) - 1)
                                       for ring in rings if ring[0] in piece])
                    self.same(self.ask(share, scene, piece[0]), wanted)

    def test_long_runs(self):
        for scene in some_scenes():
            one, two = 5 * 10 ** 30, 5 * 10 ** 30 + math.lcm(*range(1, 61))
            early, late = far_counts(scene, one), far_counts(scene, two)
            for place in range(scene.web.size):
                p, q = share(scene, place)
                self.assertLessEqual(abs(late[place] * q - p * two), 60 * q)
                self.assertLessEqual(abs((late[place] - early[place]) * q - p * (two - one)), 60 * q)

    def test_over_the_blocks(self):
        for scene in some_scenes():
            for piece in pieces_of(scene.web):
                if len(piece) > 1:
                    inside = [block for block in blocks(scene.web) if block[0] in piece]
                    parts = [share(part(scene, block), 0) for block in inside]
                    self.same(share(scene, piece[0]), greatest(parts))

    def test_named_shares(self):
        for size in range(3, 30):
            self.same(share(ring_scene(size), size - 1), (1, size))
        self.same(share(Scene(Web(6, ring_lines(6)), [0, 1, 2, 0, 1, 2]), 0), (1, 3))
        self.same(share(Scene(Web(8, ring_lines(8)), [0, 1, 2, 0, 0, 1, 2, 0]), 0), (1, 4))
        self.same(share(Scene(Web(7, ring_lines(7)), [0, 1, 2, 0, 0, 1, 2]), 3), (2, 7))
        self.same(share(Scene(Web(3), [0, 1, 2]), 1), (0, 1))
        self.same(share(all_ready(Web(9, ring_lines(9))), 1), (0, 1))
        self.same(share(Scene(Web(2, [(0, 1)]), [0, 1]), 0), (0, 1))
        two = beside(ring_scene(5), ring_scene(4))
        self.same([share(two, place) for place in (0, 4, 5, 8)], [(1, 5), (1, 5), (1, 4), (1, 4)])
        self.same(share(place=5, scene=two), (1, 4))


class SharePaperTest(Case):

    def check(self, scene, piece, place):
        """Check the paper of a piece."""
        paper = self.ask(share_paper, scene, place)
        self.assertIs(type(paper), SharePaper)
        self.same(paper.share, share_of(scene, piece))
        if paper.share == (0, 1):
            self.same(paper.ring, ())
        else:
            self.assertTrue(set(paper.ring) <= set(piece))
            self.assertIs(ring_holds(scene, *paper.share, paper.ring), True)
            self.assertIs(is_share_ring(scene, paper.share, paper.ring), True)
        self.assertTrue(all(type(number) is int for number in paper.ring + paper.slopes))
        self.assertIs(slopes_hold(scene, piece, *paper.share, paper.slopes), True)
        self.assertIs(are_slopes(scene, place, paper.share, paper.slopes), True)

    def test_papers(self):
        for scene in some_scenes():
            for piece in pieces_of(scene.web):
                for place in piece[:1] + piece[-1:]:
                    self.check(scene, piece, place)
        paper = share_paper(place=0, scene=Scene(Web(1), [1]))
        self.same((paper.share, paper.ring), ((0, 1), ()))
        self.same(len(paper.slopes), 1)

    def test_large_papers(self):
        chance = random.Random(233)
        full = Web(60, list(itertools.combinations(range(60), 2)))
        scenes = [random_scene(chance, 60, many) for many in (70, 150, 600)]
        for scene in scenes + [Scene(full, [k % 3 for k in range(60)]), all_ready(full)]:
            piece = pieces_of(scene.web)[0]
            paper = share_paper(scene, 0)
            self.assertIs(slopes_hold(scene, piece, *paper.share, paper.slopes), True)
            if paper.share != (0, 1):
                self.assertIs(ring_holds(scene, *paper.share, paper.ring), True)

    def test_slopes_bound_firings(self):
        for scene in random_scenes(234, 30, 9) + [ring_scene(5)]:
            for piece in pieces_of(scene.web):
                paper = share_paper(scene, piece[0])
                p, q = paper.share
                for beats in (0, 1, 2, 7, 50, FAR):
                    many = far_counts(scene, beats)
                    for place, slope in zip(piece, paper.slopes):
                        self.assertLessEqual(many[place] * q, p * beats + slope - min(paper.slopes))


class JudgesTest(Case):

    def judge(self, scene, pair, ring):
        """Check the answer for a ring."""
        wanted = ring_holds(scene, *pair, ring)
        self.assertIs(self.ask(is_share_ring, scene, pair, ring), wanted)
        return wanted

    def test_rings(self):
        chance = random.Random(239)
        answers = []
        for scene in random_scenes(235, 40, 7) + [ring_scene(4), ring_scene(3, 3)]:
            rings = rings_within(scene.web, 5)
            for ring in chance.sample(rings, min(9, len(rings))):
                p, q = sum_of(lead_of, scene, ring), len(ring) - 1
                for times in (1, 2, 7, 10 ** 30):
                    if p >= 0:
                        self.assertIs(self.judge(scene, (p * times, q * times), ring), True)
                for pair in ((0, 1), (0, 9), (1, 3), (2, 6), (1, 4), (p + 1, q), (abs(p), q + 1), (5, 1)):
                    if pair[0] >= 0:
                        answers.append(self.judge(scene, pair, ring))
        self.assertEqual(set(answers), {True, False})

    def test_changed_rings(self):
        chance = random.Random(236)
        for scene in (ring_scene(4), ring_scene(3, 5), Scene(Web(4, ring_lines(4)), [0, 1, 2, 0])):
            paper = share_paper(scene, 0)
            ring = paper.ring
            for index in range(len(ring)):
                for other in NO_PLACES + (0, 1, 2, 3, scene.web.size):
                    self.judge(scene, paper.share, ring[:index] + (other,) + ring[index + 1:])
                self.judge(scene, paper.share, ring[:index])
                self.judge(scene, paper.share, ring[index:])
            self.judge(scene, paper.share, ring + ring[1:])
            self.judge(scene, paper.share, ring[::-1])
            self.judge(scene, paper.share, ring + (chance.choice(ring),))

    def test_no_rings(self):
        scene = ring_scene(4)
        for ring in ((), (0,), (0, 1), (0, 2, 0), (0, 0), (0, 1, 2, 3), (4, 4), (-1, 0, -1), (0, 4, 0),
                     (FAR, FAR), (0, -4, 0), (0, -3, 0)):
            for pair in ((0, 1), (1, 4), (3, 5)):
                self.assertIs(self.judge(scene, pair, ring), False)
                self.assertIs(is_share_ring(NOTHING, pair, ring), False)
        self.assertIs(is_share_ring(scene, (0, 7), (0, 1, 0)), True)
        self.assertIs(is_share_ring(ring=(3, 0, 1, 2, 3), share=(2, 8), scene=scene), True)
        self.assertIs(is_share_ring(scene, (1, 4), (0, 3, 2, 1, 0)), False)

    def test_slopes(self):
        chance = random.Random(237)
        answers = []
        for scene in random_scenes(238, 60, 7) + [ring_scene(4), ring_scene(3, 5)]:
            for piece in pieces_of(scene.web):
                paper = share_paper(scene, piece[0])
                tries = [paper.slopes, paper.slopes[:-1], paper.slopes + (0,), paper.slopes[::-1], (),
                         tuple(slope + 10 ** 30 for slope in paper.slopes)]
                for index in range(len(piece)):
                    for more in (-1, 1, -3, 3, FAR):
                        slope = paper.slopes[index] + more
                        tries.append(paper.slopes[:index] + (slope,) + paper.slopes[index + 1:])
                for slopes in tries:
                    p, q = paper.share
                    for pair in ((p, q), (2 * p, 2 * q), (p + 1, q), (p, q + 1), (0, 1), (1, 3)):
                        wanted = slopes_hold(scene, piece, *pair, slopes)
                        found = are_slopes(scene, chance.choice(piece), pair, slopes)
                        self.assertIs(found, wanted)
                        answers.append(wanted)
                self.assertIs(self.ask(are_slopes, scene, piece[0], paper.share, paper.slopes), True)
        self.assertEqual(set(answers), {True, False})

    def test_slopes_for_other_terms(self):
        scene = ring_scene(4)
        slopes = share_paper(scene, 0).slopes
        double = tuple(2 * slope for slope in slopes)
        self.assertIs(are_slopes(scene, 0, (2, 8), double), True)
        self.assertIs(are_slopes(scene, 0, (2, 8), slopes), False)
        self.assertIs(are_slopes(scene, 0, (1, 5), slopes), False)
        self.assertIs(are_slopes(slopes=slopes, share=(1, 4), place=3, scene=scene), True)

    def test_no_place(self):
        two = beside(ring_scene(3), all_ready(Web(1)))
        for place in NO_PLACES + (4,):
            self.fails("NoPlace", (place,), share, two, place)
            self.fails("NoPlace", (place,), share_paper, two, place)
            for slopes in ((), (0,), (0, 0, 0)):
                self.fails("NoPlace", (place,), are_slopes, two, place, (0, 1), slopes)
        for function in (share, share_paper):
            self.fails("NoPlace", (0,), function, NOTHING, 0)
        self.fails("NoPlace", (0,), are_slopes, NOTHING, 0, (1, 3), ())
        self.assertIs(are_slopes(two, 3, (0, 1), (5,)), True)
        self.assertIs(are_slopes(two, 3, (0, 1), ()), False)
        self.assertIs(are_slopes(all_ready(Web(2, thread_lines(2))), 0, (0, 1), (5, 5)), True)


if __name__ == "__main__":
    unittest.main()
