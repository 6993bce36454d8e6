"""Trails: points 29 and 30."""

import itertools
import random
import unittest

from firerest.books import Book
from firerest.far import far_counts
from firerest.runs import counts
from firerest.scenes import Scene, all_ready
from firerest.trails import best_trail, trail_gain
from firerest.webs import Web
from tests.support import FAR, NO_PLACES, Case, counts_of, every_web, lead_of, near_of, pictures_of
from tests.support import random_pokes, random_scene, random_scenes, ring_lines, ring_scene
from tests.support import thread_lines

NOTHING = Scene(Web(0), [])
# Every way from a pair to another one is one of these, or it is none.
MOVES = (-4, -3, -2, -1, 0, 1, 3)


def follows(scene, pokes, place, beat):
    """Return the pairs that may follow a pair, each with its gain."""
    if beat < 1:
        return {}
    found = {(place, beat - 1): 0}
    for other in near_of(scene.web)[place]:
        found[(other, beat - 1)] = lead_of(scene, place, other)
    if (beat - 1, place) in pokes:
        found[(place, beat - 3)] = 1
    return found


def end_of(scene, place, beat):
    """Return the end gain."""
    if beat == -1 and scene.picture[place] == 1:
        return -1
    if beat == -2 and scene.picture[place] in (1, 2):
        return -1
    return 0


def told(scene, trail, pokes):
    """Return ("gain", gain) or ("wrong", index) for a sequence of pairs."""
    if not trail or not 0 <= trail[0][0] < scene.web.size or trail[0][1] < 0:
        return ("wrong", 0)
    total = 0
    for index in range(1, len(trail)):
        ways = follows(scene, pokes, *trail[index - 1])
        if tuple(trail[index]) not in ways:
            return ("wrong", index)
        total += ways[tuple(trail[index])]
    if trail[-1][1] > 0:
        return ("wrong", len(trail))
    return ("gain", total + end_of(scene, *trail[-1]))


def greatest_gains_of(scene, beats, pokes):
    """Return the greatest gain of all trails, for each first pair up to `beats`."""
    best = {}
    for place in range(scene.web.size):
        for beat in (0, -1, -2):
            best[(place, beat)] = end_of(scene, place, beat)
    for beat in range(1, beats + 1):
        for place in range(scene.web.size):
            ways = follows(scene, pokes, place, beat)
            best[(place, beat)] = max(gain + best[later] for later, gain in ways.items())
    return best


def all_trails(scene, place, beat, pokes):
    """Return all trails with this first pair."""
    if beat <= 0:
        return [((place, beat),)]
    found = []
    for later in follows(scene, pokes, place, beat):
        found += [((place, beat),) + rest for rest in all_trails(scene, *later, pokes)]
    return found


class TrailGainTest(Case):

    def check(self, scene, trail, pokes):
        """Check the gain, or the error, of a sequence of pairs."""
        kind, value = told(scene, trail, pokes)
        book = Book(pokes)
        if kind == "gain":
            self.same(self.ask(trail_gain, scene, trail, book), value)
        else:
            self.fails("NotATrail", (value,), trail_gain, scene, trail, book)
        return kind

    def test_all_trails(self):
        chance = random.Random(200)
        kinds = set()
        for scene in random_scenes(201, 25, 4):
            pokes = random_pokes(chance, 4, 4, scene.web.size)
            for place in range(scene.web.size):
                for beat in range(5):
                    trails = all_trails(scene, place, beat, pokes)
                    kinds |= {trail[-1][1] for trail in trails}
                    for trail in chance.sample(trails, min(20, len(trails))):
                        self.assertEqual(self.check(scene, trail, pokes), "gain")
        self.assertEqual(kinds, {0, -1, -2})

    def test_end_gains(self):
        for state in range(3):
            scene = Scene(Web(1), [state])
            for beat, wanted in ((1, (0, -1, -1)), (2, (0, -1, 0)), (3, (0, 0, 0))):
                book = Book([(beat - 1, 0)])
                self.same(trail_gain(scene, [(0, beat), (0, beat - 3)], book), 1 + wanted[state])
                self.check(scene, [(0, beat), (0, beat - 3)], book.pokes)
            self.same(trail_gain(scene, [(0, 1), (0, 0)]), 0)
            self.same(trail_gain(scene, [(0, 0)]), 0)

    def test_steps_and_stays(self):
        web = Web(3, thread_lines(3))
        for picture in itertools.product(range(3), repeat=3):
            scene = Scene(web, picture)
            wanted = lead_of(scene, 0, 1) + lead_of(scene, 1, 2)
            self.same(trail_gain(scene, ((0, 3), (1, 2), (1, 1), (2, 0))), wanted)
            self.same(trail_gain(scene, ((0, 3), (1, 2), (0, 1), (0, 0))), 0)

    def test_all_short_sequences(self):
        scene = Scene(Web(3, [(0, 1)]), [0, 1, 2])
        pokes = [(0, 0), (2, 0), (1, 1), (3, 2), (FAR, 0)]
        kinds = []
        for first in itertools.product((-1, 0, 1, 2, 3), (-2, -1, 0, 1, 2, 3, 4)):
            self.check(scene, [first], pokes)
            for place, move in itertools.product((-2, -1, 0, 1, 2, 3), MOVES):
                trail = [first, (place, first[1] + move)]
                kinds.append(self.check(scene, trail, pokes))
                kinds.append(self.check(scene, trail + [(place, trail[1][1] - 1)], pokes))
        self.assertEqual(set(kinds), {"gain", "wrong"})

    def test_wrong_sequences(self):
        scene = all_ready(Web(2, [(0, 1)]))
        book = Book([(2, 0)])
        good = [(1, 5), (0, 4), (0, 3), (0, 0)]
        self.same(self.ask(trail_gain, scene, good, book), 1)
        self.fails("NotATrail", (0,), trail_gain, scene, [])
        self.fails("NotATrail", (0,), trail_gain, scene, [], None)
        self.fails("NotATrail", (3,), trail_gain, scene, good)
        self.fails("NotATrail", (3,), trail_gain, scene, good[:3], book)
        self.fails("NotATrail", (4,), trail_gain, scene, good + [(0, -1)], book)
        self.fails("NotATrail", (1,), trail_gain, scene, [(1, 5), (0, 5)] + good, book)
        self.fails("NotATrail", (1,), trail_gain, scene, [(0, FAR)], book)
        self.fails("NotATrail", (2,), trail_gain, scene, [(0, FAR), (1, FAR - 1)], book)
        for place in NO_PLACES + (2,):
            self.fails("NotATrail", (0,), trail_gain, scene, [(place, 1), (0, 0)])
            self.fails("NotATrail", (1,), trail_gain, scene, [(0, 1), (place, 0)])
            self.fails("NotATrail", (1,), trail_gain, scene, [(1, 4), (place, 3), (5, 5)])
        for beat in (-1, -2, -3, -FAR):
            self.fails("NotATrail", (0,), trail_gain, scene, [(0, beat)])
        self.fails("NotATrail", (0,), trail_gain, NOTHING, [(0, 0)])
        self.fails("NotATrail", (0,), trail_gain, NOTHING, [])

    def test_changed_trails(self):
        chance = random.Random(202)
        for scene in random_scenes(203, 40, 8):
            if scene.web.size == 0:
                continue
            pokes = random_pokes(chance, 8, 12, scene.web.size)
            trail = best_trail(scene, chance.randrange(scene.web.size), 12, Book(pokes))
            for index in range(len(trail)):
                place, beat = trail[index]
                other = (chance.choice((place, chance.randint(-1, scene.web.size))),
                         beat + chance.choice((-2, -1, 0, 1, 2)))
                self.check(scene, trail[:index] + (other,) + trail[index + 1:], pokes)
                self.check(scene, trail[:index], pokes)
                self.check(scene, trail[index:], pokes)

    def test_far_pokes_and_names(self):
        scene = Scene(Web(2, [(0, 1)]), [0, 1])
        book = Book([(FAR, 0), (FAR, FAR), (0, 1)])
        self.same(trail_gain(scene, [(0, 1), (1, 0)], book), 1)
        self.same(trail_gain(book=book, trail=[(1, 1), (1, -2)], scene=scene), 0)
        for nothing in (None, Book()):
            self.same(trail_gain(scene, [(0, 1), (1, 0)], nothing), 1)
            self.fails("NotATrail", (1,), trail_gain, scene, [(1, 1), (1, -2)], nothing)


class BestTrailTest(Case):

    def check(self, scene, place, beats, pokes):
        """Check that a best trail gains as often as the place fires."""
        kept = (scene.web.lines, scene.picture)
        book = Book(pokes)
        trail = self.ask(best_trail, scene, place, beats, book)
        self.same(trail[0], (place, beats))
        self.assertTrue(all(type(number) is int for pair in trail for number in pair))
        fires = counts_of(pictures_of(scene, beats, pokes))[place]
        self.assertEqual(told(scene, trail, pokes), ("gain", fires))
        self.same(trail_gain(scene, trail, book), fires)
        self.same((scene.web.lines, scene.picture), kept)
        self.equal(book, Book(pokes))

    def test_greatest_of_all(self):
        chance = random.Random(204)
        for scene in random_scenes(205, 60, 9):
            for beats in (0, 1, 2, 3, 4, 9, 14):
                pokes = random_pokes(chance, chance.choice((0, 3, 12)), beats + 2, scene.web.size)
                best = greatest_gains_of(scene, beats, pokes)
                for place in range(scene.web.size):
                    trail = best_trail(scene, place, beats, Book(pokes))
                    self.assertEqual(told(scene, trail, pokes), ("gain", best[(place, beats)]))
                    self.check(scene, place, beats, pokes)

    def test_all_small_scenes(self):
        for web in every_web(2) + every_web(3)[::2]:
            for picture in itertools.product(range(3), repeat=web.size):
                scene = Scene(web, picture)
                for pokes in ([], [(0, 0)], [(1, 1), (0, 0)], [(2, 1), (3, 1)], [(1, 0), (4, 0)]):
                    best = greatest_gains_of(scene, 5, pokes)
                    fires = counts_of(pictures_of(scene, 5, pokes))
                    for place in range(web.size):
                        self.assertEqual(best[(place, 5)], fires[place])
                        trail = best_trail(scene, place, 5, Book(pokes))
                        self.same(trail[0], (place, 5))
                        self.assertEqual(told(scene, trail, pokes), ("gain", fires[place]))

    def test_many_beats(self):
        chance = random.Random(206)
        scenes = [ring_scene(60), ring_scene(7, 5), random_scene(chance, 60, 80)]
        for scene in scenes:
            size = scene.web.size
            for beats in (299, 3000):
                for many in (0, 400):
                    pokes = random_pokes(chance, many, beats, size)
                    book = Book(pokes + [(FAR, 0)])
                    for place in (0, size // 2, size - 1):
                        trail = best_trail(scene, place, beats, book)
                        self.same(trail[0], (place, beats))
                        wanted = far_counts(scene, beats, book)[place]
                        self.same(trail_gain(scene, trail, book), wanted)

    def test_no_book_and_names(self):
        scene = ring_scene(5)
        for book in (None, Book(), Book([(9, 0), (FAR, 2)])):
            trail = best_trail(scene, 3, 9, book)
            self.same(trail, best_trail(scene, 3, 9))
            self.same(trail_gain(scene, trail), counts(scene, 9)[3])
        self.same(best_trail(book=None, beats=9, place=3, scene=scene), trail)
        self.same(best_trail(scene, 3, 0), ((3, 0),))

    def test_no_place(self):
        scene = all_ready(Web(4, ring_lines(4)))
        for place in NO_PLACES + (4,):
            self.fails("NoPlace", (place,), best_trail, scene, place, 3)
            self.fails("NoPlace", (place,), best_trail, scene, place, 0, Book([(0, 0)]))
        self.fails("NoPlace", (0,), best_trail, NOTHING, 0, 0)


if __name__ == "__main__":
    unittest.main()
