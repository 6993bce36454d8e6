"""Repeats: points 38 and 39."""

import itertools
import random
import unittest

from firerest.books import Pace
from firerest.far import far_counts, far_run
from firerest.repeats import Repeat, repeat, repeat_counts, repeat_run
from firerest.runs import counts, run
from firerest.scenes import Scene, all_ready, beside
from firerest.shares import share
from firerest.webs import Web
from firerest.wheels import paced_share
from tests.support import FAR, Case, counts_of, near_of, next_picture, random_scenes, ring_lines
from tests.support import ring_scene, thread_lines

NOTHING = Scene(Web(0), [])
FAR_BEATS = (FAR, FAR - 1, 10 ** 39 + 12345)


def poked_at(pace, beat):
    """Return the places that a pace pokes at a beat."""
    return [place for phase, place in pace.pokes if phase == beat % pace.period]


def film_under(scene, beats, pace):
    """Return the pictures at the beats 0 to `beats` under a pace."""
    near = near_of(scene.web)
    found = [tuple(scene.picture)]
    for beat in range(beats):
        found.append(next_picture(near, found[-1], poked_at(pace, beat)))
    return found


def repeat_of(scene, pace):
    """Return first, period and gains by going through the beats; an oracle."""
    near = near_of(scene.web)
    pictures, seen = [tuple(scene.picture)], {}
    while True:
        beat = len(pictures) - 1
        moment = (beat % pace.period, pictures[-1])
        if moment in seen:
            return seen[moment], beat - seen[moment], counts_of(pictures[seen[moment]:])
        seen[moment] = beat
        pictures.append(next_picture(near, pictures[-1], poked_at(pace, beat)))


def some_cases(seed, many, most):
    """Return scenes with paces."""
    chance = random.Random(seed)
    found = []
    for scene in random_scenes(seed + 1, many, most):
        size, period = scene.web.size, chance.randint(1, 9)
        pokes = [(chance.randrange(period), chance.randint(0, size)) for _ in range(chance.randint(0, 6))]
        found += [(scene, Pace(period, pokes)), (scene, Pace(period))]
    for _ in range(many):
        size, period = chance.randint(3, most), chance.randint(1, 14)
        scene = Scene(Web(size, ring_lines(size)), [chance.randrange(3) for _ in range(size)])
        found.append((scene, Pace(period, [(chance.randrange(period), chance.randrange(size))])))
    return found


class RepeatTest(Case):

    def check(self, scene, pace):
        """Check a repeat against going through the beats."""
        found = self.ask(repeat, scene, pace)
        self.assertIs(type(found), Repeat)
        self.same((found.first, found.period, found.gains), repeat_of(scene, pace))
        self.assertEqual(found.period % pace.period, 0)
        return found

    def test_against_going_through_the_beats(self):
        firsts = set()
        for scene, pace in some_cases(260, 90, 12):
            firsts.add(self.check(scene, pace).first)
        self.assertGreater(len(firsts), 6)

    def test_least_of_all_pairs(self):
        for scene, pace in some_cases(262, 25, 6):
            found = repeat(scene, pace)
            pictures = film_under(scene, found.first + 3 * found.period, pace)
            pairs = [(first, period) for first in range(found.first + 1)
                     for period in range(pace.period, found.period + 1, pace.period)
                     if all(pictures[beat] == pictures[beat + period]
                            for beat in range(first, found.first + 2 * found.period))]
            self.assertEqual(min(pairs), (found.first, found.period))

    def test_all_small_scenes(self):
        for web in (Web(1), Web(2, [(0, 1)]), Web(3, ring_lines(3)), Web(3, [(0, 1)])):
            for picture in itertools.product(range(3), repeat=web.size):
                for pokes in ([], [(0, 0)], [(0, 0), (1, 1)]):
                    for period in (2, 3, 5):
                        self.check(Scene(web, picture), Pace(period, pokes))

    def test_pieces_beside_one_another(self):
        found = repeat(ring_scene(3, 4, 5, 7))
        self.same((found.first, found.period), (0, 420))
        self.same(found.gains, (140,) * 3 + (105,) * 4 + (84,) * 5 + (60,) * 7)
        scene = beside(ring_scene(3, 4), Scene(Web(9, thread_lines(9)), [1] + [0] * 8))
        self.check(scene, Pace(1))
        self.check(scene, Pace(5, [(2, 9), (4, 14)]))
        many = repeat(ring_scene(3, 4, 5, 7), Pace(59, [(0, 0), (30, 9)]))
        self.assertEqual(many.period % 59, 0)
        for period in (8, 11):
            self.check(ring_scene(3, 4, 5), Pace(period, [(0, 7), (3, 1), (3, 8)]))

    def test_named_repeats(self):
        for state, first in ((0, 0), (1, 2), (2, 1)):
            found = repeat(Scene(Web(1), [state]))
            self.same((found.first, found.period, found.gains), (first, 1, (0,)))
            found = repeat(Scene(Web(1), [state]), Pace(7))
            self.same((found.first, found.period, found.gains), (first, 7, (0,)))
            found = repeat(Scene(Web(1), [state]), Pace(1, [(0, 0)]))
            self.same((found.first, found.period, found.gains), (0, 3, (1,)))
        found = repeat(NOTHING, Pace(6))
        self.same((found.first, found.period, found.gains), (0, 6, ()))
        self.same(repeat(pace=Pace(6), scene=ring_scene(4)).period, 12)

    def test_no_pace(self):
        for scene in random_scenes(264, 20, 14) + [NOTHING, ring_scene(5)]:
            answers = [(found.first, found.period, found.gains) for found in
                       (repeat(scene), repeat(scene, None), repeat(scene, Pace(1)),
                        repeat(scene, Pace(1, [(0, scene.web.size), (0, FAR)])))]
            for answer in answers:
                self.same(answer, answers[0])
            for beats in (0, 7, FAR):
                for pace in (None, Pace(1), Pace(1, [(0, scene.web.size)])):
                    self.equal(repeat_run(scene, beats, pace), repeat_run(scene, beats))
                    self.same(repeat_counts(scene, beats, pace), repeat_counts(scene, beats))


class RepeatRunTest(Case):

    def test_small_beats(self):
        for scene, pace in some_cases(265, 40, 14):
            pictures = film_under(scene, 40, pace)
            for beats in (0, 1, 2, 3, 7, 40):
                found = self.ask(repeat_run, scene, beats, pace)
                self.equal(found, Scene(scene.web, pictures[beats]))
                self.same(self.ask(repeat_counts, scene, beats, pace), counts_of(pictures[:beats + 1]))
                self.equal(found, run(scene, beats, pace.book(beats)))
                self.same(repeat_counts(scene, beats, pace), counts(scene, beats, pace.book(beats)))

    def test_all_beats_until_it_has_come_back(self):
        scene = Scene(Web(6, ring_lines(6)), [1, 2, 0, 0, 0, 0])
        for pace in (Pace(1), Pace(5, [(1, 3)]), Pace(4, [(0, 0), (3, 2)])):
            pictures = film_under(scene, 150, pace)
            for beats in range(151):
                self.same(repeat_run(scene, beats, pace).picture, pictures[beats])
                self.same(repeat_counts(scene, beats, pace), counts_of(pictures[:beats + 1]))

    def test_far_beats_without_pokes(self):
        for scene in random_scenes(267, 40, 20) + [ring_scene(3, 4, 5, 7), NOTHING]:
            for beats in FAR_BEATS:
                for pace in (None, Pace(13)):
                    self.equal(repeat_run(scene, beats, pace), far_run(scene, beats))
                    self.same(repeat_counts(scene, beats, pace), far_counts(scene, beats))

    def test_far_beats_under_paces(self):
        for scene, pace in some_cases(268, 40, 14):
            first, period, gains = repeat_of(scene, pace)
            for beats in FAR_BEATS:
                rounds, rest = divmod(beats - first, period)
                pictures = film_under(scene, first + rest, pace)
                wanted = [early + rounds * gain for early, gain in zip(counts_of(pictures), gains)]
                self.same(repeat_run(scene, beats, pace).picture, pictures[-1])
                self.same(repeat_counts(scene, beats, pace), tuple(wanted))

    def test_carried_on(self):
        for scene, pace in some_cases(270, 25, 20):
            first, then = 10 ** 38 + 7, 10 ** 39 + 4
            middle = repeat_run(scene, first, pace)
            self.equal(repeat_run(middle, then, pace.since(first)), repeat_run(scene, first + then, pace))
            both = zip(repeat_counts(scene, first, pace), repeat_counts(middle, then, pace.since(first)))
            self.same(repeat_counts(scene, first + then, pace), tuple(a + b for a, b in both))

    def test_gains_and_shares(self):
        for scene, pace in some_cases(271, 40, 12):
            found = repeat(scene, pace)
            for place, gain in enumerate(found.gains):
                p, q = paced_share(scene, place, pace) if pace.pokes else share(scene, place)
                self.assertEqual(gain * q, p * found.period)

    def test_names(self):
        scene = all_ready(Web(2, [(0, 1)]))
        pace = Pace(60, [(59, 1)])
        self.same(repeat_run(pace=pace, beats=60, scene=scene).picture, (0, 1))
        self.same(repeat_counts(pace=pace, beats=61, scene=scene), (1, 1))
        self.same(repeat_counts(scene, 60 * 10 ** 30 + 1, pace), (10 ** 30, 10 ** 30))
        self.equal(repeat_run(NOTHING, FAR, Pace(3, [(0, 0)])), NOTHING)
        self.same(repeat_counts(NOTHING, FAR, Pace(3, [(0, 0)])), ())


if __name__ == "__main__":
    unittest.main()
