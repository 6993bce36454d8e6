"""Blocks: point 11."""

import itertools
import random
import unittest

from firerest.blocks import blocks
from firerest.webs import Web
from tests.support import Case, every_web, lengths_from, random_web, ring_lines, thread_lines


def blocks_of(web):
    """Return the blocks by the words of the definition."""
    group = {line: line for line in web.lines}
    for one, two in itertools.combinations(web.lines, 2):
        for shared in set(one) & set(two):
            a = sum(one) - shared
            b = sum(two) - shared
            if b in lengths_from(web, a, (shared,)) and group[one] != group[two]:
                old, new = group[one], group[two]
                group = {line: new if group[line] == old else group[line] for line in group}
    found = {}
    for line in web.lines:
        found.setdefault(group[line], set()).update(line)
    return tuple(sorted(tuple(sorted(places)) for places in found.values()))


class BlocksTest(Case):

    def test_all_small_webs(self):
        for size in range(5):
            for web in every_web(size):
                self.same(blocks(web), blocks_of(web))

    def test_random_webs(self):
        chance = random.Random(20)
        for _ in range(250):
            size = chance.randint(5, 9)
            web = random_web(chance, size, chance.randint(0, 14))
            lines = web.lines
            self.same(blocks(web), blocks_of(web))
            self.same(blocks(web), blocks_of(web))
            self.same(web.lines, lines)

    def test_sparse_webs(self):
        chance = random.Random(21)
        for size in (20, 40, 60):
            for many in (size // 2, size, size + size // 4):
                web = random_web(chance, size, many)
                self.same(blocks(web), blocks_of(web))

    def test_named_webs(self):
        self.same(blocks(Web(0)), ())
        self.same(blocks(Web(5)), ())
        self.same(blocks(Web(2, [(0, 1)])), ((0, 1),))
        self.same(blocks(web=Web(4, [(1, 3)])), ((1, 3),))
        self.same(blocks(Web(60, thread_lines(60))), tuple((i, i + 1) for i in range(59)))
        self.same(blocks(Web(60, ring_lines(60))), (tuple(range(60)),))
        full = Web(60, list(itertools.combinations(range(60), 2)))
        self.same(blocks(full), (tuple(range(60)),))
        star = Web(6, [(5, i) for i in range(5)])
        self.same(blocks(star), ((0, 5), (1, 5), (2, 5), (3, 5), (4, 5)))

    def test_two_rings(self):
        shared = Web(7, [(3, 0), (0, 1), (1, 3), (3, 4), (4, 5), (5, 6), (6, 3)])
        self.same(blocks(shared), ((0, 1, 3), (3, 4, 5, 6)))
        line = Web(6, [(0, 2), (2, 4), (4, 0), (1, 3), (3, 5), (5, 1), (4, 3)])
        self.same(blocks(line), ((0, 2, 4), (1, 3, 5), (3, 4)))
        apart = Web(6, ring_lines(3) + ring_lines(3, 3))
        self.same(blocks(apart), ((0, 1, 2), (3, 4, 5)))
        chord = Web(6, ring_lines(6) + [(1, 4)])
        self.same(blocks(chord), ((0, 1, 2, 3, 4, 5),))

    def test_order(self):
        web = Web(8, [(7, 0), (6, 7), (1, 2), (2, 3), (1, 3), (0, 1), (4, 5)])
        self.same(blocks(web), ((0, 1), (0, 7), (1, 2, 3), (4, 5), (6, 7)))
        web = Web(6, [(0, 5), (0, 4), (4, 5), (0, 1)])
        self.same(blocks(web), ((0, 1), (0, 4, 5)))


if __name__ == "__main__":
    unittest.main()
