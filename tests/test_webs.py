"""Webs, walks and rings: points 8 and 9."""

import itertools
import random
import unittest

from firerest.webs import Web, is_ring, is_walk
from tests.support import FAR, NO_PLACES, OTHERS, Case, every_web, near_of, random_web, ring_lines


def lines_of(pairs):
    """Return what the field `lines` holds for these pairs."""
    return tuple(sorted({tuple(sorted(pair)) for pair in pairs}))


class WebTest(Case):

    def test_sizes(self):
        for size in range(61):
            web = Web(size)
            self.same(web.size, size)
            self.same(web.lines, ())
            self.same(len(web), 0)
            self.same([web.near(place) for place in range(size)], [()] * size)
            ring = Web(size, ring_lines(size) if size > 2 else ())
            self.same(ring.size, size)
            self.same(len(ring), size if size > 2 else 0)

    def test_default_and_names(self):
        self.equal(Web(4), Web(4, ()))
        self.equal(Web(size=3, lines=[(0, 2)]), Web(3, [(0, 2)]))
        self.equal(Web(lines=[(2, 1)], size=3), Web(3, [(1, 2)]))
        self.same(Web(3, [(0, 2)]).near(place=2), (0,))

    def test_lines(self):
        chance = random.Random(1)
        for _ in range(120):
            size = chance.randint(2, 60)
            pairs = [chance.sample(range(size), 2) for _ in range(chance.randint(0, 80))]
            pairs += [pair[::-1] for pair in pairs[:5]] + pairs[-3:]
            web = self.ask(Web, size, pairs)
            self.same(web.size, size)
            self.same(web.lines, lines_of(pairs))
            self.same(len(web), len(web.lines))

    def test_lines_of_all_small_webs(self):
        for size in range(5):
            pairs = list(itertools.combinations(range(size), 2))
            for many in range(len(pairs) + 1):
                for lines in itertools.combinations(pairs, many):
                    self.same(Web(size, lines).lines, lines)
                    self.same(Web(size, [pair[::-1] for pair in lines[::-1]]).lines, lines)

    def test_full_web(self):
        pairs = list(itertools.combinations(range(60), 2))
        web = Web(60, pairs[::-1] + pairs)
        self.same(web.lines, tuple(pairs))
        self.same(len(web), 1770)
        self.same(web.near(59), tuple(range(59)))
        self.same(web.near(30), tuple(range(30)) + tuple(range(31, 60)))

    def test_near(self):
        chance = random.Random(2)
        for _ in range(100):
            web = random_web(chance, chance.randint(0, 60), chance.randint(0, 90))
            near = near_of(web)
            for place in range(web.size):
                self.same(web.near(place), tuple(near[place]))
                self.same(web.near(place), tuple(near[place]))

    def test_near_of_no_place(self):
        for web in (Web(0), Web(1), Web(3, [(0, 1), (1, 2)]), Web(60, [(0, 59)])):
            for place in NO_PLACES + (web.size, web.size + 1, -web.size - 1, -60):
                self.fails("NoPlace", (place,), web.near, place)

    def test_in(self):
        chance = random.Random(3)
        webs = every_web(3) + [Web(0), random_web(chance, 7, 9), random_web(chance, 60, 100)]
        for web in webs:
            for a in range(-1, web.size + 2):
                for b in range(-1, web.size + 2):
                    wanted = (min(a, b), max(a, b)) in web.lines
                    self.assertIs((a, b) in web, wanted)
                    self.assertIs([a, b] in web, wanted)
                    self.assertIs((a, b) not in web, not wanted)

    def test_in_for_far_numbers(self):
        web = Web(3, [(0, 1), (1, 2), (0, 2)])
        far = NO_PLACES + (-3, 3, FAR, 2 ** 64, 2 ** 64 + 1, -2 ** 64)
        for number in far:
            for other in far + (0, 1, 2):
                for pair in ((number, other), [number, other], (other, number), [other, number]):
                    self.assertIs(pair in web, False)

    def test_iteration(self):
        web = Web(5, [(3, 1), (0, 4), (1, 0)])
        for _ in range(2):
            self.same(list(web), [(0, 1), (0, 4), (1, 3)])
        self.same([(a, b) for a in web for b in web],
                  [(a, b) for a in web.lines for b in web.lines])
        self.same(list(Web(3)), [])

    def test_sum(self):
        chance = random.Random(4)
        for _ in range(60):
            one = random_web(chance, chance.randint(0, 30), chance.randint(0, 40))
            two = random_web(chance, chance.randint(0, 30), chance.randint(0, 40))
            kept = (one.size, one.lines, two.size, two.lines)
            both = one + two
            self.same(both.size, one.size + two.size)
            moved = tuple((a + one.size, b + one.size) for a, b in two.lines)
            self.same(both.lines, one.lines + moved)
            for place in range(both.size):
                self.same(both.near(place), tuple(near_of(both)[place]))
            for a, b in two.lines:
                self.assertIs((b + one.size, a + one.size) in both, True)
            self.same((one.size, one.lines, two.size, two.lines), kept)

    def test_sum_with_itself_and_with_nothing(self):
        web = Web(3, [(0, 1), (1, 2)])
        self.equal(web + web, Web(6, [(0, 1), (1, 2), (3, 4), (4, 5)]))
        self.equal(web + Web(0), web)
        self.equal(Web(0) + web, web)
        self.equal(Web(0) + Web(0), Web(0))
        self.equal(Web(2) + web, Web(5, [(2, 3), (3, 4)]))
        self.equal(web + Web(57), Web(60, [(0, 1), (1, 2)]))
        self.equal(web, Web(3, [(0, 1), (1, 2)]))

    def test_equality(self):
        web = Web(3, [(0, 1), (1, 2)])
        self.equal(web, web)
        self.equal(web, Web(3, [[2, 1], [1, 0], [0, 1]]))
        self.equal(Web(0), Web(0, []))
        for other in (Web(4, [(0, 1), (1, 2)]), Web(3, [(0, 1)]), Web(3), Web(0),
                      Web(3, [(0, 1), (1, 2), (0, 2)]), Web(3, [(0, 1), (0, 2)])):
            self.unequal(web, other)
        for one in every_web(3):
            for two in every_web(3):
                self.assertIs(one == two, one.lines == two.lines)

    def test_equality_with_other_values(self):
        class Alike:
            size = 2
            lines = ((0, 1),)

        for web in (Web(0), Web(2, [(0, 1)])):
            for other in OTHERS + (Alike(), (2, ((0, 1),)), ((0, 1),), [(0, 1)], 2):
                self.unequal(web, other)

    def test_bad_line(self):
        good = [(0, 1), (2, 1), (3, 0)]
        bad = [(0, 0), (3, 3), (4, 0), (0, 4), (-1, 0), (0, -1), (-1, -1), (4, 4), (-1, 4),
               (10 ** 30, 0), (1, 10 ** 30), (-10 ** 30, 2), (2, -10 ** 30), (FAR, FAR),
               (5, 1), (-4, 0), (0, -4), (2 ** 64, 1)]
        for pair in bad:
            for index in range(4):
                self.fails("BadLine", (index,), Web, 4, good[:index] + [pair] + good[index:])
                self.fails("BadLine", (index,), Web, 4, good[:index] + [pair, (0, 9), (2, 2)])
                self.fails("BadLine", (index,), Web, 4, good[:index] + [pair, pair, (-1, 2)])
        self.fails("BadLine", (0,), Web, 0, [(0, 1)])
        self.fails("BadLine", (0,), Web, 1, [(0, 1)])
        self.fails("BadLine", (0,), Web, 1, [(0, 0)])
        self.fails("BadLine", (1,), Web, 60, [(58, 59), (59, 60)])
        self.fails("BadLine", (2,), Web, 2, [(0, 1), (1, 0), (1, 1)])


class WalkTest(Case):

    def judged(self, web, walk):
        """Return what both functions say, as a pair."""
        told = (self.ask(is_walk, web, walk), self.ask(is_ring, web, walk))
        self.assertIs(type(told[0]), bool)
        self.assertIs(type(told[1]), bool)
        return told

    def test_small_walks_against_the_words(self):
        for web in (Web(0), Web(1), Web(2, [(0, 1)]), Web(3, [(0, 1), (1, 2)]),
                    Web(3, [(0, 1), (1, 2), (0, 2)]), Web(4, [(0, 1), (2, 3)])):
            numbers = range(-1, web.size + 1)
            for many in range(5):
                for walk in itertools.product(numbers, repeat=many):
                    good = many > 0 and all(0 <= place < web.size for place in walk)
                    for a, b in zip(walk, walk[1:]):
                        good = good and (min(a, b), max(a, b)) in web.lines
                    ring = good and many > 1 and walk[0] == walk[-1]
                    self.assertIs(is_walk(web, walk), good)
                    self.assertIs(is_ring(web, list(walk)), ring)

    def test_named_walks(self):
        web = Web(6, ring_lines(5))
        self.same(self.judged(web, (0, 1, 2, 3, 4, 0)), (True, True))
        self.same(self.judged(web, (0, 4, 3, 2, 1, 0)), (True, True))
        self.same(self.judged(web, (0, 1, 2, 1, 2, 3)), (True, False))
        self.same(self.judged(web, (0, 1, 2, 1, 0, 1, 0)), (True, True))
        self.same(self.judged(web, (3, 4, 3)), (True, True))
        self.same(self.judged(web, (3, 4)), (True, False))
        self.same(self.judged(web, (5,)), (True, False))
        self.same(self.judged(web, (2,)), (True, False))
        self.same(self.judged(web, ()), (False, False))
        self.same(self.judged(web, (2, 2)), (False, False))
        self.same(self.judged(web, (5, 5)), (False, False))
        self.same(self.judged(web, (0, 2, 0)), (False, False))
        self.same(self.judged(web, (0, 1, 3, 4, 0)), (False, False))
        self.same(self.judged(web, (0, 1, 2, 0)), (False, False))
        self.same(self.judged(web, (0, 1) * 200 + (0,)), (True, True))

    def test_numbers_that_are_no_places(self):
        web = Web(3, [(0, 1), (1, 2), (0, 2)])
        for number in NO_PLACES + (3, 4, -3, FAR):
            for walk in ((number,), (number, number), (0, number), (number, 0), (0, number, 0),
                         (0, 1, number), (number, 0, 1, number), (0, 1, number, 2, 0)):
                self.same(self.judged(web, walk), (False, False))

    def test_names(self):
        web = Web(2, [(0, 1)])
        self.assertIs(is_walk(web=web, walk=(0, 1)), True)
        self.assertIs(is_ring(walk=(0, 1, 0), web=web), True)


if __name__ == "__main__":
    unittest.main()
