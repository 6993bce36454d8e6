"""Wishes: points 40 and 41."""

import itertools
import random
import unittest

from firerest.leads import lead_sum
from firerest.rings import basic_rings
from firerest.scenes import Scene, all_ready
from firerest.webs import Web
from firerest.wishes import Wish, has_wish, wish, wished_sum
from tests.support import FAR, NO_PLACES, Case, every_web, lead_of, near_of, random_web
from tests.support import ring_lines, rings_within, sum_of, thread_lines

NOTHING = Scene(Web(0), [])


def sums_of(web, sums):
    """Return the wished sum of each step."""
    found = {}
    for (a, b), number in zip(web.lines, sums):
        found[a, b] = number
        found[b, a] = -number
    return found


def wished(web, sums, walk):
    """Return the wished sum of a walk."""
    steps = sums_of(web, sums)
    return sum(steps[a, b] for a, b in zip(walk, walk[1:]))


def fault_of(web, walk):
    """Return the index at which this is no walk, or None."""
    near = near_of(web)
    for index, place in enumerate(walk):
        if place not in near or (index and place not in near[walk[index - 1]]):
            return index
    return None if walk else 0


def holds(scene, sums, rings):
    """Tell whether the lead sum of each of the rings is its wished sum."""
    return all(sum_of(lead_of, scene, ring) == wished(scene.web, sums, ring) for ring in rings)


def scenes_of(web):
    """Return all scenes of the web."""
    return [Scene(web, picture) for picture in itertools.product(range(3), repeat=web.size)]


def random_sums(chance, web, most):
    """Return a wish."""
    return [chance.randint(-most, most) for _ in web.lines]


class WishedSumTest(Case):

    def test_walks(self):
        chance = random.Random(300)
        for _ in range(80):
            web = random_web(chance, chance.randint(1, 9), chance.randint(0, 16))
            sums = random_sums(chance, web, 60)
            walk = [chance.randrange(web.size)]
            while len(walk) < 12 and near_of(web)[walk[-1]]:
                walk.append(chance.choice(near_of(web)[walk[-1]]))
            self.same(self.ask(wished_sum, web, sums, walk), wished(web, sums, walk))
            back = [-number for number in sums]
            self.same(wished_sum(web, back, walk[::-1]), wished(web, sums, walk))
        web = Web(2, [(0, 1)])
        self.same(wished_sum(walk=(1, 0, 1, 0), sums=[60], web=web), -60)
        self.same(wished_sum(web, [60], (1,)), 0)

    def test_no_walks(self):
        chance = random.Random(301)
        for _ in range(150):
            web = random_web(chance, chance.randint(0, 5), chance.randint(0, 9))
            sums = random_sums(chance, web, 60)
            walk = [chance.choice((-1, 0, 1, 2, 3, 4, 5, FAR)) for _ in range(chance.randint(0, 6))]
            fault = fault_of(web, walk)
            if fault is None:
                self.same(wished_sum(web, sums, walk), wished(web, sums, walk))
            else:
                self.fails("NotAWalk", (fault,), wished_sum, web, sums, walk)
        web = Web(3, thread_lines(3))
        self.fails("NotAWalk", (0,), wished_sum, web, [1, 2], ())
        self.fails("NotAWalk", (2,), wished_sum, web, [1, 2], (0, 1, 1, 7))
        self.fails("NotAWalk", (1,), wished_sum, web, [1, 2], (0, 2))
        self.fails("NotAWalk", (0,), wished_sum, Web(0), [], (0,))
        for place in NO_PLACES + (3,):
            self.fails("NotAWalk", (0,), wished_sum, web, [1, 2], (place,))
            self.fails("NotAWalk", (2,), wished_sum, web, [1, 2], (0, 1, place))


class HasWishTest(Case):

    def test_all_rings(self):
        chance = random.Random(302)
        answers = []
        for web in every_web(3) + every_web(4)[20:] + [Web(5, ring_lines(5)), Web(5, thread_lines(5))]:
            rings = rings_within(web, 5)
            for scene in chance.sample(scenes_of(web), 9):
                steps = [lead_of(scene, a, b) for a, b in web.lines]
                for _ in range(3):
                    # A wish that has the sums of the scene, seen from other places.
                    tops = [chance.randint(-20, 20) for _ in range(web.size)]
                    sums = [number + tops[b] - tops[a] for number, (a, b) in zip(steps, web.lines)]
                    self.assertIs(self.ask(has_wish, scene, sums), True)
                    for index in range(len(sums)):
                        changed = sums[:index] + [sums[index] + chance.choice((-1, 1))] + sums[index + 1:]
                        answers.append(has_wish(scene, changed))
                        self.assertIs(answers[-1], holds(scene, changed, rings))
                for sums in ([0] * len(steps), random_sums(chance, web, 1), random_sums(chance, web, 60)):
                    answers.append(has_wish(scene, sums))
                    self.assertIs(answers[-1], holds(scene, sums, rings))
        self.assertEqual(set(answers), {True, False})

    def test_named_wishes(self):
        triangle = Scene(Web(3, ring_lines(3)), [0, 1, 2])
        self.assertIs(has_wish(triangle, (1, 0, 0)), True)
        self.assertIs(has_wish(triangle, (0, -1, 0)), True)
        self.assertIs(has_wish(triangle, (0, 0, 1)), True)
        self.assertIs(has_wish(triangle, (0, 0, 0)), False)
        self.assertIs(has_wish(triangle, (-1, 0, 0)), False)
        self.assertIs(has_wish(sums=(60, 59, 0), scene=triangle), True)
        self.assertIs(has_wish(NOTHING, ()), True)
        self.assertIs(has_wish(Scene(Web(2, [(0, 1)]), [0, 0]), (-60,)), True)
        for sums in ((), (1,), (1, 0), (1, 0, 0, 0)):
            self.assertIs(has_wish(triangle, sums), False)


class WishTest(Case):

    def check(self, web, sums):
        """Check what is found; return whether it is a scene."""
        found = self.ask(wish, web, sums)
        self.assertIs(type(found), Wish)
        if found.scene is None:
            ring = found.ring
            self.assertIsNone(fault_of(web, ring))
            self.assertTrue(all(type(place) is int for place in ring))
            self.assertEqual(ring[0], ring[-1])
            self.assertEqual(len(set(ring)), len(ring) - 1)
            self.assertLess(len(ring) - 1, 3 * wished(web, sums, ring))
            self.same(wished_sum(web, sums, ring), wished(web, sums, ring))
            return False
        self.same(found.ring, ())
        self.equal(found.scene.web, web)
        self.assertIs(has_wish(found.scene, sums), True)
        for ring in basic_rings(web):
            self.assertEqual(lead_sum(found.scene, ring), wished(web, sums, ring))
        return True

    def test_against_all_scenes(self):
        chance = random.Random(303)
        answers = []
        webs = every_web(3) + every_web(4)[12::3] + [Web(5, ring_lines(5)), Web(6, ring_lines(6)),
                                                     Web(5, ring_lines(4) + [(0, 2), (3, 4)])]
        for web in webs:
            scenes = scenes_of(web)
            rings = rings_within(web, 5) + list(basic_rings(web))
            for sums in [[0] * len(web)] + [random_sums(chance, web, 1) for _ in range(4)]:
                wanted = any(holds(scene, sums, rings) for scene in scenes)
                self.assertIs(self.check(web, sums), wanted)
                answers.append(wanted)
                too_short = [ring for ring in rings if len(ring) - 1 < 3 * wished(web, sums, ring)]
                self.assertIs(not too_short, wanted)
        self.assertEqual(set(answers), {True, False})

    def test_wishes_of_scenes(self):
        chance = random.Random(304)
        for _ in range(60):
            size = chance.randint(1, 60)
            web = random_web(chance, size, chance.choice((size, size + 9, 3 * size)))
            picture = [chance.randrange(3) for _ in range(size)]
            scene = Scene(web, picture)
            tops = [chance.randint(-29, 29) for _ in range(size)]
            sums = [lead_of(scene, a, b) + tops[b] - tops[a] for a, b in web.lines]
            self.assertIs(self.check(web, sums), True)
            if basic_rings(web):
                sums[web.lines.index(tuple(sorted(basic_rings(web)[0][-2:])))] += 40
                self.check(web, sums)

    def test_great_wishes(self):
        chance = random.Random(305)
        answers = []
        for _ in range(60):
            size = chance.randint(1, 60)
            web = random_web(chance, size, chance.choice((size // 2, size, 3 * size)))
            answers.append(self.check(web, random_sums(chance, web, 60)))
            answers.append(self.check(web, [chance.choice((-60, 60)) for _ in web.lines]))
        self.assertEqual(set(answers), {True, False})
        full = Web(60, list(itertools.combinations(range(60), 2)))
        self.assertIs(self.check(full, random_sums(chance, full, 60)), False)
        self.assertIs(self.check(full, [0] * len(full)), True)

    def test_exactly_three_times(self):
        for size in range(3, 61):
            web = Web(size, ring_lines(size))
            for most in (size // 3, size // 3 + 1):
                for sign in (1, -1):
                    # The line from 0 to the last place is walked from the last place on.
                    sums = [sign if a + 1 == b else -sign for a, b in web.lines]
                    at = 0
                    while sum(sums) - 2 * sums[web.lines.index((0, size - 1))] != sign * most:
                        sums[at] -= sign if web.lines[at] != (0, size - 1) else -sign
                        at = (at + 1) % size
                    self.assertIs(self.check(web, sums), 3 * most <= size)

    def test_named_wishes(self):
        web = Web(3, ring_lines(3))
        self.assertIsNone(wish(web, (2, 0, 0)).scene)
        self.assertIs(self.check(web, (1, 0, 0)), True)
        self.assertIs(self.check(web, (-1, 0, 0)), True)
        self.equal(wish(sums=(), web=Web(0)).scene, NOTHING)
        self.same(wish(Web(0), ()).ring, ())
        self.assertIs(self.check(Web(4), ()), True)
        self.equal(wish(Web(4), ()).scene.web, all_ready(Web(4)).web)


if __name__ == "__main__":
    unittest.main()
