"""Lags, and places on tight rings: points 42, 43 and 44."""

import itertools
import random
import unittest

from firerest.books import Book
from firerest.lags import lags, tight_places, unlike_ring
from firerest.runs import film, run, turns, waits
from firerest.scenes import Scene, all_ready, beside, turned
from firerest.webs import Web
from tests.support import Case, every_web, gap_of, lead_of, near_of, pictures_of, pieces_of
from tests.support import random_pokes, random_scene, random_scenes, random_web, ring_lines
from tests.support import ring_scene, rings_within, sum_of, turns_of

NOTHING = Scene(Web(0), [])


def are_lags(one, two, found):
    """Tell whether the first two conditions of point 42 hold."""
    web = one.web
    for place in range(web.size):
        if (found[place] - one.picture[place] + two.picture[place]) % 3 != 0:
            return False
    return all(found[b] - found[a] == gap_of(one, a, b) - gap_of(two, a, b) for a, b in web.lines)


def lags_of(one, two):
    """Return the lags by carrying them on from place to place, or None."""
    found = {}
    for piece in pieces_of(one.web):
        row = {piece[0]: one.picture[piece[0]] - two.picture[piece[0]]}
        todo = [piece[0]]
        for a in todo:
            for b in near_of(one.web)[a]:
                if b not in row:
                    row[b] = row[a] + gap_of(one, a, b) - gap_of(two, a, b)
                    todo.append(b)
        while min(row.values()) > 2 or min(row.values()) < 0:
            more = 3 if min(row.values()) < 0 else -3
            row = {place: lag + more for place, lag in row.items()}
        found.update(row)
    answer = tuple(found[place] for place in range(one.web.size))
    return answer if are_lags(one, two, answer) else None


def is_ring_of(web, ring):
    """Tell whether this is a ring of the web."""
    near = near_of(web)
    return (type(ring) is tuple and len(ring) > 1 and ring[0] == ring[-1]
            and all(b in near[a] for a, b in zip(ring, ring[1:])))


def some_pairs(seed):
    """Return pairs of scenes with the same web, with and without lags."""
    chance = random.Random(seed)
    found = []
    for _ in range(150):
        size = chance.choice((1, 2, 3, 4, 6, 9, 14, 30, 60))
        one = random_scene(chance, size, chance.choice((size // 2, size, size + 3)))
        found.append((one, Scene(one.web, [chance.randrange(3) for _ in range(size)])))
        book = Book(random_pokes(chance, 2 * size, 12, size))
        found.append((run(one, chance.randint(0, 14), book), one))
        found.append((one, run(one, chance.randint(0, 14), book)))
    return found


class LagsTest(Case):

    def check(self, one, two):
        """Check lags and the ring that shows that there are none."""
        found = self.ask(lags, one, two)
        wanted = lags_of(one, two)
        self.same(found, wanted)
        ring = self.ask(unlike_ring, one, two)
        self.assertIs(ring is None, wanted is not None)
        if ring is not None:
            self.assertIs(is_ring_of(one.web, ring), True)
            self.assertNotEqual(sum_of(lead_of, one, ring), sum_of(lead_of, two, ring))
            return False
        for piece in pieces_of(one.web):
            self.assertIn(min(found[place] for place in piece), (0, 1, 2))
        return True

    def test_pairs(self):
        answers = [self.check(one, two) for one, two in some_pairs(310)]
        self.assertGreater(answers.count(True), 150)
        self.assertGreater(answers.count(False), 50)

    def test_all_small_pairs(self):
        chance = random.Random(311)
        for web in every_web(3) + [Web(4, ring_lines(4)), Web(4, ring_lines(3) + [(2, 3)])]:
            pictures = list(itertools.product(range(3), repeat=web.size))
            rings = rings_within(web, 5)
            for first, second in chance.sample(list(itertools.product(pictures, repeat=2)), 80):
                one, two = Scene(web, first), Scene(web, second)
                alike = all(sum_of(lead_of, one, ring) == sum_of(lead_of, two, ring) for ring in rings)
                self.assertIs(self.check(one, two), alike)

    def test_named_lags(self):
        web = Web(2, [(0, 1)])
        one, two = Scene(web, [0, 1]), Scene(web, [0, 0])
        self.same((lags(one, two), lags(two, one)), ((0, 1), (3, 2)))
        self.same(lags(two=two, one=one), (0, 1))
        self.assertIsNone(unlike_ring(two=two, one=one))
        self.same(lags(NOTHING, NOTHING), ())
        self.assertIsNone(unlike_ring(NOTHING, NOTHING))
        for state, other in itertools.product(range(3), repeat=2):
            pair = Scene(Web(1), [state]), Scene(Web(1), [other])
            self.same(lags(*pair), ((state - other) % 3,))
        for times in range(-4, 5):
            self.same(lags(turned(ring_scene(5), times), ring_scene(5)), (times % 3,) * 5)

    def test_webs_differ(self):
        one = ring_scene(4)
        for two in (ring_scene(5), NOTHING, Scene(Web(4), one.picture), beside(one, one),
                    Scene(Web(4, ring_lines(4)[1:]), one.picture)):
            for pair in ((one, two), (two, one)):
                self.fails("WebsDiffer", (), lags, *pair)
                self.fails("WebsDiffer", (), unlike_ring, *pair)
        self.same(lags(one, Scene(Web(4, ring_lines(4)[::-1]), one.picture)), (0,) * 4)


class TogetherTest(Case):

    def test_under_the_same_book(self):
        chance = random.Random(312)
        for one, two in some_pairs(313)[::3] + some_pairs(314)[1::6]:
            found = lags(one, two)
            if found is None:
                continue
            book = Book(random_pokes(chance, 3 * one.web.size, 20, one.web.size))
            most = {place: -(-max(found[x] for x in piece) // 3) * 3
                    for piece in pieces_of(one.web) for place in piece}
            films = zip(film(one, 20, book), film(two, 20, book))
            for beat, (first, second) in enumerate(films):
                ahead, behind = turns(one, beat, book), turns(two, beat, book)
                now = [lag + a - b for lag, a, b in zip(found, ahead, behind)]
                self.assertIs(are_lags(first, second, now), True)
                for place, lag in enumerate(now):
                    self.assertTrue(0 <= lag <= most[place])


class TightTest(Case):

    def wanted(self, scene):
        """Return the places on tight rings: those that steps with gap 1 lead back to."""
        web = scene.web
        found = []
        for start in range(web.size):
            reached, todo = set(), [start]
            for place in todo:
                for other in near_of(web)[place]:
                    if gap_of(scene, place, other) == 1 and other not in reached:
                        reached.add(other)
                        todo.append(other)
            if start in reached:
                found.append(start)
        return tuple(found)

    def test_all_rings(self):
        chance = random.Random(315)
        found = set()
        webs = [Web(0), Web(1)] + every_web(3) + every_web(4)[::3] + [Web(6, ring_lines(6))]
        webs += [random_web(chance, 6, 9) for _ in range(8)]
        for web in webs:
            rings = rings_within(web, 6)
            pictures = list(itertools.product(range(3), repeat=web.size))
            for picture in chance.sample(pictures, min(40, len(pictures))):
                scene = Scene(web, picture)
                tight = {place for ring in rings for place in ring
                         if len(ring) - 1 == 3 * sum_of(lead_of, scene, ring)}
                self.same(self.ask(tight_places, scene), tuple(sorted(tight)))
                self.same(self.wanted(scene), tuple(sorted(tight)))
                found.add(len(tight))
        self.assertGreater(len(found), 3)

    def test_large_scenes(self):
        found = set()
        for scene in random_scenes(316, 40, 60):
            self.same(tight_places(scene), self.wanted(scene))
            found.add(len(self.wanted(scene)))
        self.assertGreater(len(found), 3)
        self.same(tight_places(Scene(Web(60, ring_lines(60)), [0, 1, 2] * 20)), tuple(range(60)))
        self.same(tight_places(scene=Scene(Web(60, ring_lines(60)), [2, 1, 0] * 20)), tuple(range(60)))
        self.same(tight_places(ring_scene(60)), ())
        self.same(tight_places(beside(all_ready(Web(3, ring_lines(3))), ring_scene(3))), (3, 4, 5))
        self.same(tight_places(NOTHING), ())

    def test_tight_places_never_wait(self):
        chance = random.Random(317)
        seen = 0
        for scene in random_scenes(318, 60, 14) + [ring_scene(3, 5)]:
            book = Book(random_pokes(chance, 30, 30, scene.web.size))
            for pokes in (None, book):
                waited = waits(scene, 30, pokes)
                for place in tight_places(scene):
                    seen += 1
                    self.same(waited[place], 0)
            pictures = pictures_of(scene, 30, book.pokes)
            self.assertTrue(all(turns_of(pictures)[place] == 30 for place in tight_places(scene)))
        self.assertGreater(seen, 20)


if __name__ == "__main__":
    unittest.main()
