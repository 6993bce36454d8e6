"""Foldings: points 60 and 61."""

import itertools
import random
import unittest

from firerest.foldings import folded, folding, is_even
from firerest.scenes import Scene, all_ready, beside
from firerest.unrollings import unrolled
from firerest.webs import Web
from tests.support import FAR, Case, every_web, near_of, pictures_of, random_scene, random_scenes, ring_lines
from tests.support import ring_scene, thread_lines

NOTHING = Scene(Web(0), [])


def is_sorted_evenly(scene, numbers, near=None):
    """Tell whether numbers are an even sorting, by the words of point 60."""
    if len(numbers) != scene.web.size:
        return False
    near = near or near_of(scene.web)
    beside_ = [{numbers[other] for other in near[place]} for place in range(scene.web.size)]
    first = {}
    for place, number in enumerate(numbers):
        told = (scene.picture[place], beside_[place])
        if first.setdefault(number, told) != told:
            return False
    return True


def every_sorting(size):
    """Return all ways to sort places, numbered in the order of the places."""
    found = [()]
    for _ in range(size):
        found = [numbers + (number,) for numbers in found for number in range(max(numbers, default=-1) + 2)]
    return found


def in_order(numbers):
    """Return the numbers anew, in the order of the places."""
    found = {}
    return tuple(found.setdefault(number, len(found)) for number in numbers)


class FoldingTest(Case):

    def check(self, scene):
        """Check a folding as far as its size lets one; return it."""
        numbers = self.ask(folding, scene)
        self.assertIs(type(numbers), tuple)
        self.assertEqual(numbers, in_order(numbers))
        self.assertIs(is_sorted_evenly(scene, numbers), True)
        self.assertIs(self.ask(is_even, scene, numbers), True)
        self.check_folded(scene, numbers)
        return numbers

    def check_folded(self, scene, numbers):
        """Check the folded scene, its lines and its states."""
        found = self.ask(folded, scene)
        self.assertEqual(found.web.size, len(set(numbers)))
        lines = {(min(numbers[a], numbers[b]), max(numbers[a], numbers[b])) for a, b in scene.web.lines}
        self.same(found.web.lines, tuple(sorted(line for line in lines if line[0] != line[1])))
        for place, number in enumerate(numbers):
            self.assertEqual(found.picture[number], scene.picture[place])

    def test_small_scenes_against_all_sortings(self):
        chance = random.Random(460)
        sortings = {size: every_sorting(size) for size in range(8)}
        fewer = 0
        for _ in range(250):
            size = chance.choice((0, 1, 2, 3, 4, 5, 5, 6, 6, 7))
            states = chance.choice(((0,), (0, 1), (0, 1, 2), (0, 0, 0, 1)))
            web = random_scene(chance, size, chance.choice((size // 2, size, 2 * size))).web
            scene = Scene(web, [chance.choice(states) for _ in range(size)])
            near = near_of(web)
            even = [numbers for numbers in sortings[size] if is_sorted_evenly(scene, numbers, near)]
            least = min(len(set(numbers)) for numbers in even)
            self.assertEqual([numbers for numbers in even if len(set(numbers)) == least], [self.check(scene)])
            fewer += least < size
        self.assertGreater(fewer, 100)

    def test_every_web_of_four_places(self):
        sortings = every_sorting(4)
        for web in every_web(4):
            near = near_of(web)
            for picture in ((0, 0, 0, 0), (0, 1, 0, 0), (2, 0, 0, 2), (1, 0, 0, 1)):
                scene = Scene(web, picture)
                numbers = self.check(scene)
                for tried in sortings:
                    wanted = is_sorted_evenly(scene, tried, near)
                    self.assertIs(is_even(scene, tried), wanted)
                    self.assertFalse(wanted and len(set(tried)) <= len(set(numbers)) and tried != numbers)

    def test_two_numbers_made_one(self):
        for scene in random_scenes(461, 40, 60) + random_scenes(462, 40, 12):
            numbers = self.check(scene)
            for one, two in list(itertools.combinations(sorted(set(numbers)), 2))[:200]:
                tried = tuple(one if number == two else number for number in numbers)
                self.assertIs(is_even(scene, tried), False)

    def test_sixty_places(self):
        every = list(itertools.combinations(range(60), 2))
        for scene, many in ((all_ready(Web(60, every)), 1), (all_ready(Web(60, ring_lines(60))), 1),
                            (all_ready(Web(60)), 1), (Scene(Web(60, every), [1] + [0] * 59), 2),
                            (all_ready(Web(60, thread_lines(60))), 1), (ring_scene(60), 60),
                            (Scene(Web(60, thread_lines(60)), [1] + [0] * 59), 60),
                            (Scene(Web(60, thread_lines(60)), [1] + [0] * 58 + [1]), 30),
                            (ring_scene(3, 3, 3), 3), (Scene(Web(60, [(0, k) for k in range(1, 60)]), [0] * 60), 1),
                            (beside(ring_scene(4), unrolled(ring_scene(4), 5, (1, 0, 2, 3))), 4)):
            self.assertEqual(len(set(self.check(scene))), many)
        # Having a neighbour at all is what tells places apart.
        self.same(self.check(all_ready(Web(4, [(1, 3)]))), (0, 1, 0, 1))
        chance = random.Random(463)
        for many in (20, 60, 90):
            self.check(Scene(random_scene(chance, 60, many).web, [0] * 59 + [1]))

    def test_runs_show_the_same(self):
        chance = random.Random(464)
        for scene in random_scenes(465, 60, 14) + random_scenes(466, 6, 60) + [
                unrolled(ring_scene(4), 3, (1, 0, 2, 2)), Scene(Web(6, ring_lines(6)), [1, 2, 0] * 2)]:
            numbers, small = folding(scene), folded(scene)
            pokes = [(chance.randint(0, 12), number) for number in set(numbers) for _ in range(2)]
            for chosen in ((), pokes[:1], pokes):
                many = [(beat, place) for beat, number in chosen
                        for place in range(scene.web.size) if numbers[place] == number]
                pairs = zip(pictures_of(scene, 15, many), pictures_of(small, 15, chosen))
                for picture, other in pairs:
                    self.assertEqual(picture, tuple(other[number] for number in numbers))

    def test_numbers_of_any_kind(self):
        scene = Scene(Web(4, thread_lines(4)), [1, 0, 0, 1])
        for numbers, wanted in (((0, 1, 1, 0), True), ((FAR, -FAR, -FAR, FAR), True), ((-1, -2, -2, -1), True),
                                ((3, 2, 1, 0), True), ((0, 0, 0, 0), False), ((0, 1, 2, 0), False),
                                ((0, 1, 1, 2), False), ((0, 1, 1), False), ((0, 1, 1, 0, 0), False), ((), False),
                                ((0, 1, 1, 0, 7), False), ((0, 1, 0, 1), False), ((5, 5, 5, 5), False)):
            self.assertIs(self.ask(is_even, scene, numbers), wanted)
        self.assertIs(self.ask(is_even, NOTHING, ()), True)
        self.assertIs(self.ask(is_even, NOTHING, (0,)), False)
        # The same neighbours, but other states.
        pair = Scene(Web(2), [0, 1])
        self.assertIs(self.ask(is_even, pair, (0, 0)), False)
        self.assertIs(self.ask(is_even, Scene(Web(2), [2, 2]), (0, 0)), True)

    def test_random_numbers(self):
        chance = random.Random(467)
        answers = []
        for _ in range(1500):
            scene = Scene(random_scene(chance, 4, 4).web, chance.choice(((0,) * 4, (0, 0, 1, 1))))
            numbers = tuple(chance.choice((0, 1, -7, FAR)) for _ in range(chance.choice((3, 4, 4, 4, 4, 5))))
            answers.append(is_even(scene, numbers))
            self.assertIs(answers[-1], is_sorted_evenly(scene, numbers))
        self.assertGreater(answers.count(True), 100)

    def test_nothing_names_and_asking_again(self):
        self.same(self.check(NOTHING), ())
        self.same(folded(NOTHING).web, Web(0))
        scene, other = Scene(Web(2, [(0, 1)]), [1, 0]), all_ready(Web(2, [(0, 1)]))
        self.same(folding(scene=scene), (0, 1))
        self.same(folding(other), (0, 0))
        self.same(folding(scene), (0, 1))
        self.same(folded(scene=other), all_ready(Web(1)))
        self.assertIs(is_even(numbers=[0, 0], scene=other), True)


if __name__ == "__main__":
    unittest.main()
