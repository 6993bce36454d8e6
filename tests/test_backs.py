"""There and back: points 48 to 51."""

import inspect
import itertools
import random
import unittest

from firerest.backs import age, back, before_count, befores, is_seen, latest_start
from firerest.books import Book
from firerest.repeats import repeat
from firerest.runs import run, step
from firerest.scenes import Scene, all_ready, beside, mirror
from firerest.webs import Web
from tests.support import FAR, Case, every_web, near_of, next_picture, pictures_of, random_pokes
from tests.support import random_scene, random_scenes, ring_lines, ring_scene, thread_lines, turns_of

NOTHING = Scene(Web(0), [])


def pictures_with(web):
    """Return all pictures of the web, in ascending order."""
    return list(itertools.product(range(3), repeat=web.size))


def back_of(scene, poked):
    """Return the picture one beat earlier, by the words of the point."""
    near = near_of(scene.web)
    found = []
    for place, state in enumerate(scene.picture):
        rested = any(scene.picture[other] == 2 for other in near[place])
        found.append({1: 0, 2: 1, 0: 2 if rested or place in poked else 0}[state])
    return tuple(found)


def some_webs():
    """Return small webs."""
    return [Web(0), Web(1)] + every_web(2) + every_web(3) + [
        Web(4, ring_lines(4)), Web(4, thread_lines(4)), Web(4, ring_lines(3) + [(2, 3)]), Web(4, [(1, 3)])]


class BackTest(Case):

    def check(self, scene, poked):
        """Check one step back."""
        found = self.ask(back, scene, poked)
        self.equal(found.web, scene.web)
        self.same(found.picture, back_of(scene, poked))
        self.equal(found, mirror(step(mirror(scene), poked)))

    def test_all_small_scenes(self):
        for web in some_webs():
            for index, picture in enumerate(pictures_with(web)):
                scene = Scene(web, picture)
                self.check(scene, ())
                self.check(scene, [place for place in range(web.size) if index >> place & 1])
                self.equal(back(scene), back(scene, ()))

    def test_pokes(self):
        chance = random.Random(330)
        for scene in random_scenes(331, 50, 60):
            size = scene.web.size
            poked = [chance.randint(-2, size + 2) for _ in range(chance.randint(0, 12))]
            self.check(scene, poked + poked[:2])
            self.check(scene, poked + [FAR, -FAR, -1, size, -size])
            self.equal(back(poked=poked, scene=scene), back(scene, poked))
            self.equal(back(scene, [-1, size, FAR]), back(scene))
        self.equal(back(NOTHING, [0]), NOTHING)

    def test_named_backs(self):
        scene = Scene(Web(3, [(0, 1)]), [0, 2, 0])
        self.same(back(scene).picture, (2, 1, 0))
        self.same(back(scene, [2]).picture, (2, 1, 2))
        self.same(back(scene, [2, 1]).picture, (2, 1, 2))
        self.same(back(Scene(Web(1), [1]), [0]).picture, (0,))


class SeenTest(Case):

    def starts_of(self, web, beats, pokes):
        """Return, for each picture, all pictures whose run has it at beat `beats`."""
        found = {picture: [] for picture in pictures_with(web)}
        for picture in pictures_with(web):
            film = pictures_of(Scene(web, picture), beats, pokes)
            found[film[-1]].append((picture, turns_of(film)))
        return found

    def check_all(self, web, beats, pokes):
        """Check all scenes of a web; return how many are seen."""
        seen = 0
        book = Book(pokes)
        for picture, starts in self.starts_of(web, beats, pokes).items():
            scene = Scene(web, picture)
            found = latest_start(scene, beats, book)
            self.assertIs(is_seen(scene, beats, book), bool(starts))
            if not starts:
                self.assertIsNone(found)
                continue
            seen += 1
            self.equal(found.web, web)
            fewest = dict(starts)[found.picture]
            for _, many in starts:
                self.assertTrue(all(a <= b for a, b in zip(fewest, many)))
            self.assertEqual([start for start, many in starts if many == fewest], [found.picture])
        return seen

    def test_left_alone(self):
        for web in some_webs():
            for beats in (0, 1, 2, 3, 4, 7):
                seen = self.check_all(web, beats, [])
                self.assertIs(seen == 3 ** web.size, beats == 0 or web.size == 0)

    def test_under_books(self):
        chance = random.Random(332)
        for web in some_webs():
            for beats in (1, 2, 3, 5, 8):
                pokes = random_pokes(chance, chance.randint(1, 6), beats - 1, web.size)
                self.check_all(web, beats, pokes + [(beats, 0), (beats + 1, 1), (FAR, 0)])

    def test_pokes_at_or_behind_the_beat(self):
        for scene in random_scenes(333, 25, 8):
            for beats in (0, 1, 4):
                book = Book([(0, 0), (1, 2), (3, 1)])
                more = book | Book([(beats, 0), (beats, 3), (beats + 1, 1), (FAR, 2)])
                self.assertIs(is_seen(scene, beats, book.until(beats)), is_seen(scene, beats, more))
                self.same(shown_start(latest_start(scene, beats, book.until(beats))),
                          shown_start(latest_start(scene, beats, more)))

    def test_many_beats(self):
        chance = random.Random(334)
        answers = []
        for size, many in ((60, 70), (60, 61), (12, 14), (20, 22)):
            for beats in (100, 1000):
                one = random_scene(chance, size, many)
                book = Book(random_pokes(chance, 60, beats + 5, size))
                later = run(one, beats, book)
                self.assertIs(is_seen(later, beats, book), True)
                start = latest_start(later, beats, book)
                self.equal(run(start, beats, book), later)
                answers.append(is_seen(one, beats, book))
                self.assertIs(latest_start(one, beats, book) is None, not answers[-1])
        self.assertIn(False, answers)

    def test_no_book_and_names(self):
        for scene in random_scenes(335, 20, 9) + [NOTHING, ring_scene(5)]:
            for beats in (0, 1, 6):
                for book in (None, Book(), Book([(beats, 0)])):
                    self.assertIs(is_seen(scene, beats, book), is_seen(scene, beats))
                    self.same(shown_start(latest_start(scene, beats, book)),
                              shown_start(latest_start(scene, beats)))
        scene = Scene(Web(1), [1])
        self.assertIs(is_seen(book=Book([(3, 0)]), beats=4, scene=scene), True)
        self.same(latest_start(book=Book([(3, 0)]), beats=4, scene=scene).picture, (0,))
        self.assertIs(is_seen(scene, 1), False)
        self.equal(self.ask(latest_start, scene, 0), scene)
        self.assertIs(self.ask(is_seen, scene, 0), True)
        self.equal(latest_start(NOTHING, 1000), NOTHING)


def shown_start(start):
    """Return the picture of a start, or None."""
    return None if start is None else start.picture


class AgeTest(Case):

    def ages_of(self, web):
        """Return the age of each picture, by running all of them."""
        near = near_of(web)
        held = set(pictures_with(web))
        ages, beats = {}, 0
        while True:
            later = {next_picture(near, picture, ()) for picture in held}
            ages.update({picture: beats for picture in held - later})
            if later == held:
                ages.update({picture: None for picture in held})
                return ages
            held, beats = later, beats + 1

    def test_against_all_runs(self):
        found = set()
        webs = [Web(5, ring_lines(5)), Web(5, ring_lines(4) + [(3, 4)]), Web(6, ring_lines(6)),
                Web(6, ring_lines(3) + [(2, 3), (3, 4), (4, 5)]), Web(5, thread_lines(5))]
        for web in some_webs() + webs:
            for picture, wanted in self.ages_of(web).items():
                found.add(wanted)
                scene = Scene(web, picture)
                self.same(age(scene), wanted)
                self.assertIs(wanted is None, repeat(scene).first == 0)
        self.assertGreater(len(found), 5)

    def test_larger_scenes(self):
        found = []
        for scene in random_scenes(336, 40, 20):
            for beats in (0, 3, 30):
                later = run(scene, beats)
                found.append(self.ask(age, later))
                if found[-1] is None:
                    self.same(repeat(later).first, 0)
                else:
                    self.assertGreaterEqual(found[-1], beats)
                    self.assertIs(is_seen(later, found[-1]), True)
                    self.assertIs(is_seen(later, found[-1] + 1), False)
        self.assertIn(None, found)
        self.assertIn(0, found)

    def test_old_scenes(self):
        # Two rings with nearly the same share fall into step late.
        web = Web(20, ring_lines(13) + ring_lines(7, 13) + [(9, 18)])
        late = Scene(web, [1, 2, 0, 0, 0, 0, 0, 1, 2, 0, 0, 0, 0] + [1, 2, 0, 0, 0, 0, 0])
        first = repeat(late).first
        self.assertGreater(first, 30)
        for beats in range(first - 9, first + 1):
            later = run(late, beats)
            found = age(later)
            if beats == first:
                self.assertIsNone(found)
            else:
                self.assertGreaterEqual(found, beats)
                self.assertIs(is_seen(later, found), True)
                self.assertIs(is_seen(later, found + 1), False)

    def test_named_ages(self):
        self.same([age(Scene(Web(1), [state])) for state in range(3)], [None, 0, 1])
        self.assertIsNone(age(scene=NOTHING))
        self.assertIsNone(age(ring_scene(20)))
        self.assertIsNone(age(all_ready(Web(20, ring_lines(20)))))
        self.same(age(beside(ring_scene(7), Scene(Web(1), [2]))), 1)
        self.same(age(beside(Scene(Web(1), [2]), Scene(Web(1), [1]))), 0)


class BeforesTest(Case):

    def check(self, scene, wanted):
        """Check the scenes before one, given their pictures in ascending order."""
        found = list(befores(scene))
        self.same([before.picture for before in found], wanted)
        for before in found:
            self.equal(before.web, scene.web)
        self.same([before.picture for before in befores(scene=scene)], wanted)
        self.same(before_count(scene), len(wanted))
        self.same(before_count(scene=scene), len(wanted))

    def test_all_scenes_of_small_webs(self):
        for web in some_webs() + [Web(5, ring_lines(5)), Web(5, [(0, 1), (0, 2), (0, 3)])]:
            near = near_of(web)
            found = {picture: [] for picture in pictures_with(web)}
            for picture in pictures_with(web):
                found[next_picture(near, picture, ())].append(picture)
            for picture, wanted in found.items():
                self.check(Scene(web, picture), wanted)

    def test_twelve_places(self):
        self.same(len(list(befores(all_ready(Web(12))))), 4096)
        pictures = [before.picture for before in befores(all_ready(Web(12)))]
        self.same(pictures, list(itertools.product((0, 2), repeat=12)))
        scene = Scene(Web(12, thread_lines(12)), [1, 2] + [0] * 10)
        found = [before.picture for before in befores(scene)]
        self.assertEqual(found, sorted(found))
        self.assertEqual(len(set(found)), 2 ** 9)
        self.assertTrue(all(step(before) == scene for before in befores(scene)))

    def test_generator(self):
        scene = Scene(Web(2), [0, 0])
        self.assertTrue(inspect.isgenerator(befores(scene)))
        shots = befores(scene)
        first = next(shots)
        self.same(first.picture, (0, 0))
        self.same([shot.picture for shot in shots], [(0, 2), (2, 0), (2, 2)])
        self.same(first.picture, (0, 0))
        held = list(befores(scene))
        self.same([shot.picture for shot in held], [(0, 0), (0, 2), (2, 0), (2, 2)])
        self.same(list(befores(Scene(Web(1), [1]))), [])
        pairs = [(a.picture, b.picture) for a in befores(scene) for b in befores(scene)]
        self.assertEqual(len(set(pairs)), 16)

    def test_counts_of_large_scenes(self):
        found = set()
        self.same(before_count(all_ready(Web(60))), 2 ** 60)
        self.same(before_count(Scene(Web(60), [2] * 60)), 1)
        self.same(before_count(Scene(Web(60), [1] + [2] * 59)), 0)
        self.same(before_count(NOTHING), 1)
        self.same([scene.picture for scene in befores(NOTHING)], [()])
        for scene in random_scenes(338, 150, 60) + [run(one, 4) for one in random_scenes(339, 60, 60)]:
            near = near_of(scene.web)
            resting = [place for place, state in enumerate(scene.picture) if state == 2]
            free, many = 0, 1
            for place, state in enumerate(scene.picture):
                rested = any(other in resting for other in near[place])
                free += state == 0 and not rested
                many = 0 if state == 1 and not rested else many
            found.add(many)
            self.same(before_count(scene), many * 2 ** free)
            if many:
                self.equal(step(back(scene)), scene)
        self.assertEqual(found, {0, 1})


if __name__ == "__main__":
    unittest.main()
