"""Cuts and their trees: points 58 and 59."""

import itertools
import random
import unittest

from firerest.cuts import Cuts, fewest_cuts, is_cut_tree
from firerest.fates import is_silent
from firerest.scenes import Scene, all_ready, taken_out
from firerest.webs import Web
from tests.support import FAR, Case, every_web, lead_of, near_of, random_scene, ring_lines, ring_scene
from tests.support import sum_of

NOTHING = Scene(Web(0), [])
SHARES = ((0, 1), (0, 7), (1, 12), (1, 6), (2, 12), (1, 5), (2, 9), (1, 4), (25, 100), (2, 7), (3, 10),
          (3, 12), (1, 3), (2, 6), (2, 5), (1, 1), (FAR // 3, FAR), (FAR // 4 - 1, FAR), (FAR // 4 + 1, FAR))


def simple_rings(scene):
    """Return all rings in which no place occurs twice, from their least place on."""
    near = near_of(scene.web)
    found = []
    walks = [(place,) for place in range(scene.web.size)]
    while walks:
        found += [walk + walk[:1] for walk in walks if walk[0] in near[walk[-1]]]
        walks = [walk + (other,) for walk in walks for other in near[walk[-1]]
                 if other > walk[0] and other not in walk]
    return found


def rings_above(scene, share):
    """Return the sets of places of rings with a share above p/q.

    A ring that passes a place twice is made of shorter rings, and one of
    them has a share that is not below that of the whole ring.
    """
    p, q = share
    return [set(ring) for ring in simple_rings(scene)
            if sum_of(lead_of, scene, ring) * q > p * (len(ring) - 1)]


def first_fewest(scene, share):
    """Return the first of the smallest tuples of places that meet all rings above the share."""
    rings = rings_above(scene, share)
    for many in range(scene.web.size + 1):
        for places in itertools.combinations(range(scene.web.size), many):
            if all(ring & set(places) for ring in rings):
                return places
    return None


def without(scene, place):
    """Return the scene with a place taken out."""
    lines = [line for line in scene.web.lines if place not in line]
    picture = [0 if other == place else state for other, state in enumerate(scene.picture)]
    return Scene(Web(scene.web.size, lines), picture)


def is_tree(scene, share, many, tree):
    """Tell whether the value is a tree, by the words of point 59."""
    ring, children = tree
    p, q = share
    near = near_of(scene.web)
    if len(ring) < 2 or ring[0] != ring[-1] or any(place not in near for place in ring):
        return False
    if any(b not in near[a] for a, b in zip(ring, ring[1:])):
        return False
    if sum_of(lead_of, scene, ring) * q <= p * (len(ring) - 1):
        return False
    if many == 0:
        return len(children) == 0
    places = []
    for place in ring:
        if place not in places:
            places.append(place)
    if len(children) != len(places):
        return False
    return all(is_tree(without(scene, place), share, many - 1, child)
               for place, child in zip(places, children))


def spots(tree, at=()):
    """Return the ways to all trees inside of a tree: the indexes of children."""
    found = [at]
    for index, child in enumerate(tree[1]):
        found += spots(child, at + (index,))
    return found


def at_spot(tree, spot):
    """Return the tree at a spot."""
    for index in spot:
        tree = tree[1][index]
    return tree


def with_spot(tree, spot, other):
    """Return the tree with another tree at a spot."""
    if not spot:
        return other
    ring, children = tree
    index = spot[0]
    child = with_spot(children[index], spot[1:], other)
    return ring, children[:index] + (child,) + children[index + 1:]


class CutsTest(Case):

    def check(self, scene, share):
        """Check the cuts of a scene and return their places."""
        found = self.ask(fewest_cuts, scene, share)
        self.assertIs(type(found), Cuts)
        self.same(found.places, first_fewest(scene, share))
        many = len(found.places) - 1
        if many < 0:
            self.same(found.tree, ())
            return found.places
        self.assertEqual(len(found.tree), 2)
        self.assertIs(is_tree(scene, share, many, found.tree), True)
        for other in range(7):
            self.assertIs(self.ask(is_cut_tree, scene, share, other, found.tree), other == many)
        return found.places

    def test_small_scenes(self):
        chance = random.Random(440)
        many = []
        for _ in range(150):
            size = chance.randint(0, 7)
            scene = random_scene(chance, size, chance.choice((size, 2 * size, 4 * size)))
            for share in chance.sample(SHARES, 4):
                many.append(len(self.check(scene, share)))
        for size in (6, 7, 7, 8):
            every = list(itertools.combinations(range(size), 2))
            picture = [place % 3 for place in range(size)]
            chance.shuffle(picture)
            scene = Scene(Web(size, chance.sample(every, len(every) - 3)), picture)
            for share in ((0, 1), (1, 5), (1, 4), (2, 7)):
                many.append(len(self.check(scene, share)))
        self.assertGreater(many.count(1), 40)
        self.assertGreater(many.count(2), 9)

    def test_every_web_of_four_places(self):
        for web in every_web(4):
            for picture in ((0, 1, 2, 0), (1, 2, 0, 1), (2, 1, 0, 0)):
                for share in ((0, 1), (1, 4), (1, 3)):
                    self.check(Scene(web, picture), share)

    def test_shares_between_rings(self):
        # Rings of 4, 5 and 7 places, one wave on each: shares 1/4, 1/5 and 1/7.
        scene = ring_scene(5, 4)
        scene = Scene(Web(12, list(scene.web.lines) + [(0, 9), (9, 10), (10, 11)]), scene.picture + (0, 0, 0))
        for share, places in (((0, 1), (0, 5)), ((0, 99), (0, 5)), ((1, 6), (0, 5)), ((19, 100), (0, 5)),
                              ((1, 5), (5,)), ((2, 10), (5,)), ((6, 25), (5,)), ((1, 4), ()), ((2, 8), ()),
                              ((1, 3), ()), ((1, 2), ()), ((1, 1), ()), ((FAR // 5 - 1, FAR), (0, 5)),
                              ((FAR // 5, FAR), (5,)), ((FAR // 5 + 1, FAR), (5,))):
            self.same(fewest_cuts(scene, share).places, places)
            self.check(scene, share)

    def test_the_first_of_the_fewest(self):
        # Two triangles that share place 4: taking it out is enough.
        lines = [(0, 4), (0, 2), (2, 4), (1, 4), (1, 3), (3, 4)]
        self.same(self.check(Scene(Web(5, lines), [1, 1, 2, 2, 0]), (0, 1)), (4,))
        # A ring with a chord: every place of the chord meets both rings.
        scene = Scene(Web(4, ring_lines(4) + [(1, 3)]), [0, 1, 2, 0])
        self.check(scene, (0, 1))
        self.check(scene, (1, 4))
        for size in (3, 4, 9):
            self.same(self.check(ring_scene(size), (0, 1)), (0,))

    def test_silent_scenes_and_nothing(self):
        for scene in (NOTHING, all_ready(Web(12, list(itertools.combinations(range(12), 2)))),
                      Scene(Web(2, [(0, 1)]), [1, 2]), Scene(Web(12), [1] * 12)):
            for share in SHARES:
                found = fewest_cuts(scene, share)
                self.same((found.places, found.tree), ((), ()))
                for many in range(7):
                    self.assertIs(self.ask(is_cut_tree, scene, share, many, ((0, 1, 0), ())), False)
                    self.assertIs(self.ask(is_cut_tree, scene, share, many, ((), ())), False)

    def test_twelve_places(self):
        every = list(itertools.combinations(range(12), 2))
        chance = random.Random(441)
        scenes = [Scene(Web(12, every), [place % 3 for place in range(12)]), ring_scene(3, 3, 3, 3),
                  ring_scene(4, 4, 4), ring_scene(12), Scene(Web(12, every), [0] * 10 + [1, 2])]
        scenes += [Scene(Web(12, chance.sample(every, many)), [chance.randrange(3) for _ in range(12)])
                   for many in (14, 17, 20, 30, 45)]
        for scene, most in zip(scenes, (4, 4, 3, 1, 1) + (None,) * 5):
            for share in ((0, 1), (1, 5), (1, 4), (3, 10)):
                found = fewest_cuts(scene, share)
                if share == (0, 1) and most is not None:
                    self.assertEqual(len(found.places), most)
                self.assertEqual(rings_left(scene, share, found.places), False)
                for other in range(7):
                    answer = found.tree != () and is_cut_tree(scene, share, other, found.tree)
                    self.assertIs(answer, other == len(found.places) - 1)
            self.assertIs(is_silent(taken_out(scene, fewest_cuts(scene, (0, 1)).places)), True)
        for scene in (scenes[1], scenes[2], scenes[5], scenes[6]):
            for share in ((0, 1), (1, 4)):
                self.check(scene, share)

    def test_names_and_asking_again(self):
        scene = ring_scene(3, 4)
        found = fewest_cuts(share=(0, 1), scene=scene)
        other = fewest_cuts(scene, [1, 4])
        self.same(other.places, (0,))
        self.same(shown_cuts(fewest_cuts(scene, (0, 1))), shown_cuts(found))
        self.assertIs(is_cut_tree(tree=found.tree, many=1, share=(0, 1), scene=scene), True)
        self.assertIs(is_cut_tree(many=1, tree=found.tree, share=[1, 4], scene=scene), False)


def rings_left(scene, share, places):
    """Tell whether a ring above the share does without the places, by the shares of its pieces."""
    for place in places:
        scene = without(scene, place)
    sums = {(place, place): 0 for place in range(scene.web.size)}
    p, q = share
    best = dict(sums)
    near = near_of(scene.web)
    for _ in range(scene.web.size):
        later = {}
        for (start, place), total in best.items():
            for other in near[place]:
                key = (start, other)
                gain = total + q * lead_of(scene, place, other) - p
                later[key] = max(gain, later.get(key, gain))
        best = later
        if any(start == place and total > 0 for (start, place), total in best.items()):
            return True
    return False


def shown_cuts(cuts):
    """Return the two fields of cuts."""
    return (cuts.places, cuts.tree)


class TreeTest(Case):

    def judge(self, scene, share, many, tree):
        """Check one judgement and return it."""
        answer = self.ask(is_cut_tree, scene, share, many, tree)
        self.assertIs(answer, is_tree(scene, share, many, tree))
        return answer

    def test_by_hand(self):
        scene = ring_scene(3, 3)
        one, two = (0, 2, 1, 0), (3, 5, 4, 3)
        if sum_of(lead_of, scene, one) < 0:
            one, two = one[::-1], two[::-1]
        leaf = (two, ())
        good = (one, (leaf, leaf, leaf))
        self.assertIs(self.judge(scene, (0, 1), 1, good), True)
        self.assertIs(self.judge(scene, (1, 4), 1, good), True)
        self.assertIs(self.judge(scene, (0, 1), 0, leaf), True)
        self.assertIs(self.judge(scene, (0, 1), 0, (one, ())), True)
        twice = (one + one[1:], (leaf, leaf, leaf))
        self.assertIs(self.judge(scene, (0, 1), 1, twice), True)
        turned = (one[1:] + one[1:2], (leaf, leaf, leaf))
        self.assertIs(self.judge(scene, (0, 1), 1, turned), True)
        for share in ((1, 3), (2, 6), (1, 2), (1, 1)):
            self.assertIs(self.judge(scene, share, 1, good), False)
            self.assertIs(self.judge(scene, share, 0, leaf), False)
        same = (one, ())
        for tree in ((one, (leaf, leaf)), (one, (leaf,) * 4), (one, ()), (one, (same, leaf, leaf)),
                     (one, (leaf, leaf, same)), (one[::-1], (leaf,) * 3), (one[:-1], (leaf,) * 3),
                     ((0,), (leaf,)), ((), ()), ((0, 3, 0), (leaf, leaf)), ((0, 6, 0), (leaf, leaf)),
                     ((-1, 0, -1), (leaf, leaf)), ((0, FAR, 0), (leaf, leaf)), (one, (good, leaf, leaf)),
                     (one, (leaf, (two, (leaf,)), leaf)), (one + one[1:], (leaf,) * 6),
                     ((0, 1, 0), (leaf, leaf))):
            self.assertIs(self.judge(scene, (0, 1), 1, tree), False)
        for many in (0, 2, 3, 4, 5, 6):
            self.assertIs(self.judge(scene, (0, 1), many, good), False)

    def test_children_stand_in_the_order_of_first_occurrence(self):
        # A ring of three and one of four; whatever is taken out of one, the other is left.
        scene = ring_scene(3, 4)
        one = fewest_cuts(scene, (0, 1)).tree
        ring, children = one
        leaf = children[0]
        self.assertEqual(len(children), len(ring) - 1)
        other = fewest_cuts(taken_out(scene, leaf[0][:1]), (0, 1)).tree[0]
        self.assertEqual(set(other), set(ring))
        # Behind each place of the joined triangles stands a child of its own.
        lines = [(0, 1), (1, 2), (0, 2), (2, 3), (3, 4), (2, 4), (4, 5), (5, 6), (4, 6)]
        chain = Scene(Web(7, lines), [1, 2, 0, 2, 1, 2, 0])
        found = fewest_cuts(chain, (0, 1))
        self.assertEqual(len(found.places), 2)
        ring, children = found.tree
        told = set()
        for order in itertools.permutations(range(len(children))):
            tree = (ring, tuple(children[index] for index in order))
            told.add(self.judge(chain, (0, 1), 1, tree))
        self.assertEqual(told, {True, False})

    def test_one_spot_changed(self):
        chance = random.Random(442)
        answers, many = [], 0
        while many < 25:
            scene = Scene(random_scene(chance, 7, 40).web, chance.sample((0, 0, 0, 1, 1, 2, 2), 7))
            share = chance.choice(((0, 1), (1, 5), (1, 4)))
            found = fewest_cuts(scene, share)
            if len(found.places) < 2:
                continue
            many += 1
            tree, least = found.tree, len(found.places) - 1
            for spot in chance.sample(spots(tree), min(4, len(spots(tree)))):
                ring, children = at_spot(tree, spot)
                others = [(ring[1:] + ring[1:2], children), (ring[::-1], children[::-1]), (ring[:-1], children),
                          (ring + ring[1:], children), (ring, children + ((ring, ()),)), (ring, children[1:]),
                          (ring, children[:-1]), (ring, children[::-1]), ((), children), (ring, ()),
                          (tuple(chance.randint(-1, 7) for _ in range(4)), children),
                          (ring[:1] + (chance.randint(-1, 7),) + ring[2:], children)]
                for ring_of in simple_rings(scene)[:9]:
                    others.append((ring_of, children))
                for other in others:
                    answers.append(self.judge(scene, share, least, with_spot(tree, spot, other)))
        self.assertGreater(answers.count(True), 20)
        self.assertGreater(answers.count(False), 400)

    def test_many_up_to_six(self):
        # One triangle more than the places that are taken out.
        for many in range(7):
            scene = ring_scene(*[3] * (many + 1))
            tree = None
            for index in range(many + 1):
                ring = (3 * index, 3 * index + 1, 3 * index + 2, 3 * index)
                if sum_of(lead_of, scene, ring) < 0:
                    ring = ring[::-1]
                tree = (ring, () if tree is None else (tree,) * 3)
            self.assertIs(is_cut_tree(scene, (0, 1), many, tree), True)
            for other in range(7):
                self.assertIs(is_cut_tree(scene, (0, 1), other, tree), other == many)


if __name__ == "__main__":
    unittest.main()
