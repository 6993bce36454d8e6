"""One beat and runs: points 15, 17 and 18."""

import inspect
import itertools
import random
import unittest

from firerest.books import Book
from firerest.runs import counts, film, firings, run, step, turns, waits
from firerest.scenes import Scene, all_ready
from firerest.webs import Web
from tests.support import FAR, NO_PLACES, Case, counts_of, next_picture, near_of, pictures_of
from tests.support import random_pokes, random_scenes, ring_lines, ring_scene, thread_lines, turns_of

NOTHING = Scene(Web(0), [])


class StepTest(Case):

    def check(self, scene, poked):
        """Check one step by the words of the point."""
        kept = scene.picture
        found = self.ask(step, scene, poked)
        self.equal(found.web, scene.web)
        self.same(found.picture, next_picture(near_of(scene.web), kept, poked))
        self.same(scene.picture, kept)

    def test_all_small_scenes(self):
        webs = [Web(0), Web(1), Web(2), Web(2, [(0, 1)]), Web(3, [(0, 1), (1, 2)]),
                Web(3, ring_lines(3)), Web(3, [(0, 2)])]
        for web in webs:
            for picture in itertools.product(range(3), repeat=web.size):
                scene = Scene(web, picture)
                for many in range(web.size + 1):
                    for poked in itertools.combinations(range(web.size), many):
                        self.check(scene, poked)

    def test_pokes(self):
        chance = random.Random(50)
        for scene in random_scenes(51, 60, 60):
            size = scene.web.size
            self.check(scene, ())
            poked = [chance.randint(-3, size + 3) for _ in range(chance.randint(0, 12))]
            self.check(scene, poked)
            self.check(scene, poked + poked)
            self.check(scene, poked + [FAR, -FAR, 10 ** 30, -1, size, -10 ** 30, 2 ** 64])
            self.check(scene, list(range(size)))
            self.equal(step(scene), step(scene, ()))
            self.equal(step(scene), step(scene, []))
            self.equal(step(scene), step(scene, [-1, size, FAR, -size, -FAR]))
            self.equal(step(scene=scene, poked=poked), step(scene, poked))

    def test_named_pokes(self):
        scene = Scene(Web(6, [(0, 1), (3, 4)]), [0, 1, 2, 0, 0, 0])
        self.same(step(scene).picture, (1, 2, 0, 0, 0, 0))
        self.same(step(scene, [5]).picture, (1, 2, 0, 0, 0, 1))
        self.same(step(scene, [1, 2, 0, 5, 5]).picture, (1, 2, 0, 0, 0, 1))
        self.same(step(scene, [-1, 6, 12]).picture, (1, 2, 0, 0, 0, 0))
        self.same(step(NOTHING, [0, 1]).picture, ())


class RunTest(Case):

    def check(self, scene, beats, pokes):
        """Check all functions for the run up to `beats`."""
        book = Book(pokes)
        kept = (scene.web.lines, scene.picture, book.pokes)
        pictures = pictures_of(scene, beats, pokes)
        found = run(scene, beats, book)
        self.equal(found.web, scene.web)
        self.same(found.picture, pictures[-1])
        shots = list(film(scene, beats, book))
        self.same([shot.picture for shot in shots], pictures)
        self.equal(shots[-1].web, scene.web)
        self.same(counts(scene, beats, book), counts_of(pictures))
        changes = turns_of(pictures)
        self.same(turns(scene, beats, book), changes)
        self.same(waits(scene, beats, book), tuple(beats - many for many in changes))
        for place in range(scene.web.size):
            wanted = [beat for beat in range(1, beats + 1) if pictures[beat][place] == 1]
            self.same(firings(scene, place, beats, book), tuple(wanted))
        self.same(run(scene, beats, book).picture, pictures[-1])
        self.same((scene.web.lines, scene.picture, book.pokes), kept)

    def test_left_alone(self):
        for scene in random_scenes(52, 60, 25):
            for beats in (0, 1, 2, 3, 7, 30):
                self.check(scene, beats, [])

    def test_under_books(self):
        chance = random.Random(53)
        for scene in random_scenes(54, 60, 25):
            size = scene.web.size
            for beats in (0, 1, 2, 3, 7, 30):
                pokes = random_pokes(chance, chance.randint(1, 25), beats + 2, size)
                self.check(scene, beats, pokes)
                self.check(scene, beats, pokes + [(beats, 0), (FAR, 0), (10 ** 30, 1), (0, FAR)])

    def test_large_scenes(self):
        chance = random.Random(55)
        full = Web(60, list(itertools.combinations(range(60), 2)))
        for web in (full, Web(60, ring_lines(60)), Web(60, thread_lines(60)), Web(60)):
            scene = Scene(web, [chance.randrange(3) for _ in range(60)])
            self.check(scene, 70, [])
            self.check(scene, 70, random_pokes(chance, 200, 80, 60))

    def test_pokes_at_one_beat(self):
        web = Web(5, thread_lines(5))
        for beat in range(8):
            for many in range(3):
                for poked in itertools.combinations(range(5), many):
                    self.check(all_ready(web), 7, [(beat, place) for place in poked])

    def test_last_beats(self):
        scene = all_ready(Web(2, [(0, 1)]))
        for beats in range(6):
            for beat in range(7):
                self.check(scene, beats, [(beat, 0)])
        self.same(run(scene, 4, Book([(3, 0)])).picture, (1, 0))
        self.same(run(scene, 3, Book([(3, 0)])).picture, (0, 0))
        self.same(counts(scene, 4, Book([(3, 0)])), (1, 0))
        self.same(counts(scene, 3, Book([(3, 0)])), (0, 0))

    def test_fired_at_first(self):
        scene = Scene(Web(3, [(0, 1)]), [1, 0, 1])
        self.same(counts(scene, 0), (0, 0, 0))
        self.same(counts(scene, 1), (0, 1, 0))
        self.same(firings(scene, 0, 0), ())
        self.same(firings(scene, 0, 5), ())
        self.same(firings(scene, 1, 5), (1,))
        self.same(firings(scene, 2, 9, Book([(0, 2), (1, 2), (2, 2), (3, 2)])), (3,))
        self.same(turns(scene, 2), (2, 2, 2))
        self.same(waits(scene, 0), (0, 0, 0))

    def test_three_thousand_beats(self):
        chance = random.Random(56)
        for scene in (ring_scene(5, 7, 3), ring_scene(4, 3)):
            self.check(scene, 3000, [])
            self.check(scene, 3000, [(t, chance.randrange(7)) for t in range(0, 3001, 8)])
        self.check(Scene(Web(3), [1, 0, 2]), 3000, [(2999, 1), (2998, 0), (3000, 2), (1500, 1)])
        wave = ring_scene(60)
        self.same(counts(wave, 3000), (50,) * 60)
        self.same(firings(wave, 0, 3000), tuple(range(60, 3001, 60)))
        self.equal(run(wave, 3000), wave)

    def test_no_book(self):
        for scene in random_scenes(57, 15, 12) + [NOTHING]:
            for beats in (0, 1, 9):
                for function in (run, counts, turns, waits):
                    answer = function(scene, beats)
                    for given in ((None,), (Book(),)):
                        self.same(function(scene, beats, *given), answer)
                        self.same(function(scene=scene, beats=beats, book=given[0]), answer)
                shots = [shot.picture for shot in film(scene, beats)]
                for book in (None, Book()):
                    self.same([shot.picture for shot in film(scene, beats, book)], shots)
                    found = film(book=book, beats=beats, scene=scene)
                    self.same([shot.picture for shot in found], shots)
                    for place in range(scene.web.size):
                        self.same(firings(scene, place, beats, book), firings(scene, place, beats))
                        self.same(firings(scene=scene, place=place, beats=beats, book=book),
                                  firings(scene, place, beats))

    def test_film_is_a_generator(self):
        scene = ring_scene(4)
        shots = film(scene, 2)
        self.assertTrue(inspect.isgenerator(shots))
        self.equal(next(shots), scene)
        self.same(next(shots).picture, step(scene).picture)
        self.same(next(shots).picture, step(step(scene)).picture)
        with self.assertRaises(StopIteration):
            next(shots)
        one, two = film(scene, 3), film(scene, 3)
        self.same([(a.picture, b.picture) for a, b in zip(one, two)],
                  [(shot.picture, shot.picture) for shot in film(scene, 3)])
        self.same([shot.picture for shot in film(NOTHING, 2)], [(), (), ()])
        self.equal(list(film(scene, 0))[0], scene)

    def test_far_pokes(self):
        scene = all_ready(Web(3, thread_lines(3)))
        book = Book([(FAR, 0), (10 ** 39, 1), (2, 0), (10 ** 30, 2)])
        near = Book([(2, 0)])
        for beats in (0, 2, 3, 4, 50):
            self.same(run(scene, beats, book).picture, run(scene, beats, near).picture)
            self.same(counts(scene, beats, book), counts(scene, beats, near))
            self.same(turns(scene, beats, book), turns(scene, beats, near))
            self.same(firings(scene, 1, beats, book), firings(scene, 1, beats, near))

    def test_no_place(self):
        scene = ring_scene(4)
        for place in NO_PLACES + (4, 5, -4, FAR):
            self.fails("NoPlace", (place,), firings, scene, place, 0)
            self.fails("NoPlace", (place,), firings, scene, place, 20)
            self.fails("NoPlace", (place,), firings, scene, place, 20, Book([(3, 4)]))
        self.fails("NoPlace", (0,), firings, NOTHING, 0, 5)

    def test_nothing(self):
        for book in (None, Book(), Book([(0, 0), (3, 1)])):
            self.equal(run(NOTHING, 5, book), NOTHING)
            for function in (counts, turns, waits):
                self.same(function(NOTHING, 5, book), ())


class MorePokesTest(Case):

    def test_more_pokes_never_make_less(self):
        chance = random.Random(58)
        for scene in random_scenes(59, 60, 14):
            size = scene.web.size
            one = Book(random_pokes(chance, chance.randint(0, 8), 20, size))
            two = one | Book(random_pokes(chance, chance.randint(1, 12), 20, size))
            self.assertIs(one.within(two), True)
            for beats in range(25):
                for function in (turns, counts):
                    few, more = function(scene, beats, one), function(scene, beats, two)
                    self.assertTrue(all(a <= b for a, b in zip(few, more)), (few, more))


if __name__ == "__main__":
    unittest.main()
