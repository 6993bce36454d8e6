"""Pieces, distances, joined and parted webs: points 6, 10 and 12."""

import itertools
import random
import unittest

from firerest.shapes import distances, joined, parted, piece_of, pieces
from firerest.webs import Web
from tests.support import FAR, NO_PLACES, Case, every_web, lengths_from, near_of, pieces_of
from tests.support import random_web, ring_lines, thread_lines


def some_webs():
    """Return webs with few and many places, lines and pieces."""
    chance = random.Random(10)
    found = [Web(0), Web(1), Web(2), Web(60), Web(60, ring_lines(60)), Web(60, thread_lines(60))]
    found += every_web(3) + every_web(4)
    for _ in range(80):
        size = chance.randint(0, 60)
        found.append(random_web(chance, size, chance.choice((size // 4, size // 2, size, 90))))
    return found


class PiecesTest(Case):

    def test_pieces_and_piece_of(self):
        for web in some_webs():
            wanted = pieces_of(web)
            self.same(pieces(web), tuple(wanted))
            for piece in wanted:
                for place in piece:
                    self.same(piece_of(web, place), piece)
            self.same(pieces(web), tuple(wanted))

    def test_named_webs(self):
        self.same(pieces(Web(0)), ())
        self.same(pieces(Web(3)), ((0,), (1,), (2,)))
        web = Web(7, [(6, 1), (5, 0), (2, 5), (4, 6)])
        self.same(pieces(web), ((0, 2, 5), (1, 4, 6), (3,)))
        self.same(piece_of(web, 4), (1, 4, 6))
        self.same(piece_of(web, 3), (3,))
        self.same(pieces(Web(4, [(0, 3), (1, 2)])), ((0, 3), (1, 2)))
        self.same(pieces(web=web), pieces(web))
        self.same(piece_of(web=web, place=2), (0, 2, 5))

    def test_no_place(self):
        for web in (Web(0), Web(1), Web(4, [(0, 3), (1, 2)]), Web(60)):
            for place in NO_PLACES + (web.size, web.size + 1, -web.size - 1):
                self.fails("NoPlace", (place,), piece_of, web, place)


class DistancesTest(Case):

    def wanted(self, web, places):
        """Return the distances by a search from each of the places."""
        searches = [lengths_from(web, place) for place in places]
        found = []
        for place in range(web.size):
            lengths = [search[place] for search in searches if place in search]
            found.append(min(lengths) if lengths else None)
        return tuple(found)

    def test_against_searches(self):
        chance = random.Random(11)
        for web in some_webs():
            numbers = list(range(web.size))
            for many in (0, 1, 1, 2, 5):
                places = [chance.choice(numbers) for _ in range(many if numbers else 0)]
                self.same(self.ask(distances, web, places), self.wanted(web, places))
            self.same(distances(web, numbers), tuple([0] * web.size))

    def test_all_small_goals(self):
        web = Web(5, [(0, 1), (1, 2), (3, 4)])
        for many in range(4):
            for places in itertools.product(range(5), repeat=many):
                self.same(distances(web, places), self.wanted(web, places))

    def test_named_webs(self):
        web = Web(6, [(0, 1), (1, 2), (2, 3), (4, 5)])
        self.same(distances(web, ()), (None,) * 6)
        self.same(distances(web, (3,)), (3, 2, 1, 0, None, None))
        self.same(distances(web, (3, 3, 0, 3)), (0, 1, 1, 0, None, None))
        self.same(distances(web, (5, 2)), (2, 1, 0, 1, 1, 0))
        self.same(distances(Web(0), ()), ())
        self.same(distances(Web(60, thread_lines(60)), [0]), tuple(range(60)))
        self.same(distances(places=[1], web=Web(2)), (None, 0))

    def test_no_place(self):
        web = Web(4, [(0, 1), (2, 3)])
        for place in NO_PLACES + (4, 5, -4):
            self.fails("NoPlace", (place,), distances, web, [place])
            self.fails("NoPlace", (place,), distances, web, [0, 3, place, 1])
            self.fails("NoPlace", (place,), distances, web, [place, -7, 9])
            self.fails("NoPlace", (place,), distances, web, [1, 1, place, 17, place])
        self.fails("NoPlace", (0,), distances, Web(0), [0])


class LinesTest(Case):

    def check_near(self, web):
        """Check that the neighbours belong to the lines."""
        near = near_of(web)
        for place in range(web.size):
            self.same(web.near(place), tuple(near[place]))

    def test_joined_and_parted(self):
        for web in some_webs()[::3] + [Web(60, list(itertools.combinations(range(60), 2)))]:
            size, lines = web.size, web.lines
            chance = random.Random(12)
            pairs = list(itertools.permutations(range(size), 2))
            for a, b in chance.sample(pairs, min(30, len(pairs))):
                line = (min(a, b), max(a, b))
                more = joined(web, a, b)
                self.same(more.size, size)
                self.same(more.lines, tuple(sorted(set(lines) | {line})))
                self.check_near(more)
                self.assertIs((b, a) in more, True)
                if line in lines:
                    self.equal(more, web)
                    less = parted(web, a, b)
                    self.same(less.size, size)
                    self.same(less.lines, tuple(pair for pair in lines if pair != line))
                    self.check_near(less)
                    self.assertIs((a, b) in less, False)
                    self.equal(joined(less, b, a), web)
                else:
                    self.fails("NoLine", (a, b), parted, web, a, b)
                    self.equal(parted(more, b, a), web)
                self.same((web.size, web.lines), (size, lines))

    def test_names(self):
        web = Web(3, [(0, 1)])
        self.equal(joined(web=web, a=2, b=1), Web(3, [(0, 1), (1, 2)]))
        self.equal(parted(b=0, a=1, web=web), Web(3))

    def test_same_place(self):
        web = Web(4, [(0, 1), (1, 2), (2, 3)])
        for place in range(4):
            self.fails("SamePlace", (place,), joined, web, place, place)
            self.fails("NoLine", (place, place), parted, web, place, place)
        self.fails("NoLine", (3, 1), parted, web, 3, 1)
        self.fails("NoLine", (1, 3), parted, web, 1, 3)

    def test_no_place(self):
        web = Web(4, [(0, 1), (1, 2), (0, 3)])
        for function in (joined, parted):
            for place in NO_PLACES + (4, 5, -4, -3, FAR):
                self.fails("NoPlace", (place,), function, web, place, 1)
                self.fails("NoPlace", (place,), function, web, 1, place)
                self.fails("NoPlace", (place,), function, web, place, place)
                self.fails("NoPlace", (place,), function, web, place, -9)
                self.fails("NoPlace", (-9,), function, web, -9, place)
            self.fails("NoPlace", (0,), function, Web(0), 0, 0)


if __name__ == "__main__":
    unittest.main()
