"""Leading from scene to scene by pokes: points 45, 46 and 47."""

import itertools
import random
import unittest

from firerest.books import Book
from firerest.lags import lags
from firerest.leading import Leading, can_lead, is_never, leading, least_beats, why_never
from firerest.runs import run, waits
from firerest.scenes import Scene, all_ready, beside, mirror, turned
from firerest.webs import Web
from tests.support import FAR, NO_PLACES, Case, every_web, lead_of, near_of, next_picture, pieces_of
from tests.support import pictures_of, random_pokes, random_scene, ring_lines, ring_scene, rings_within
from tests.support import sum_of, thread_lines

NOTHING = Scene(Web(0), [])
# A place on a tight ring, and pieces beside it.
TAILED = Web(4, [(0, 1), (0, 2), (1, 2), (2, 3)])
CROSSED = ((0, 2), (0, 4), (1, 3), (1, 5), (2, 4), (3, 5))


def followers(web):
    """Return, for each picture, the pictures that one beat can lead to, by trying all pokes."""
    near = near_of(web)
    found = {}
    for picture in itertools.product(range(3), repeat=web.size):
        ready = [place for place in range(web.size) if picture[place] == 0]
        found[picture] = {next_picture(near, picture, poked) for many in range(len(ready) + 1)
                          for poked in itertools.combinations(ready, many)}
    return found


class Reach:
    """The pictures that books lead to from a picture, in each number of beats; an oracle."""

    def __init__(self, steps, picture):
        self.sets = [frozenset([picture])]
        seen = {}
        while self.sets[-1] not in seen:
            seen[self.sets[-1]] = len(self.sets) - 1
            self.sets.append(frozenset().union(*[steps[before] for before in self.sets[-1]]))
        self.first = seen[self.sets[-1]]
        self.period = len(self.sets) - 1 - self.first

    def at(self, beats):
        """Return the pictures after exactly `beats` beats."""
        if beats < len(self.sets):
            return self.sets[beats]
        return self.sets[self.first + (beats - self.first) % self.period]

    def least(self, picture):
        """Return the least number of beats that lead to the picture, or None."""
        return next((beats for beats, held in enumerate(self.sets) if picture in held), None)


def small_cases():
    """Return (web, pairs of pictures, reaches) for small webs."""
    chance = random.Random(320)
    webs = [Web(0), Web(1), Web(2), Web(2, [(0, 1)]), Web(3, thread_lines(3)), Web(3, ring_lines(3)),
            Web(3, [(0, 2)]), TAILED, Web(4, ring_lines(4)), Web(4, ring_lines(3)), Web(4, [(0, 1), (2, 3)]),
            Web(4, [(0, 1), (0, 2), (0, 3)]), every_web(4)[-1]]
    found = []
    for web in webs:
        steps = followers(web)
        pictures = list(itertools.product(range(3), repeat=web.size))
        for first in chance.sample(pictures, min(8, len(pictures))):
            reach = Reach(steps, first)
            others = chance.sample(pictures, min(9, len(pictures)))
            # Some of these are reached, and late.
            others += [chance.choice(sorted(held)) for held in reach.sets[1:]]
            for second in others:
                found.append((Scene(web, first), Scene(web, second), reach))
    return found + tight_cases()


def tight_cases():
    """Return such cases with tight rings."""
    found = []
    for web, starts in ((TAILED, [(0, 1, 2, 0), (2, 0, 1, 2), (0, 2, 1, 1)]),
                        (Web(6, ring_lines(3) + ring_lines(3, 3)), [(0, 1, 2, 0, 1, 2), (0, 2, 1, 2, 0, 1)]),
                        (Web(6, CROSSED), [(0, 2, 1, 0, 2, 1)])):
        steps = followers(web)
        for first in starts:
            reach = Reach(steps, first)
            for times, last in itertools.product(range(3), range(3)):
                ahead = [times] * 3 + [last] * (web.size - 3)
                if web.lines == CROSSED:
                    ahead = [times, last] * 3
                second = [(state + more) % 3 for state, more in zip(first, ahead)]
                found.append((Scene(web, first), Scene(web, second), reach))
    return found


def larger_pairs(seed, most):
    """Return pairs of scenes, many of which can be reached."""
    chance = random.Random(seed)
    found = []
    for _ in range(60):
        size = chance.randint(1, most)
        one = random_scene(chance, size, chance.choice((size // 2, size, size + 4)))
        book = Book(random_pokes(chance, 2 * size, 25, size))
        found.append((one, run(one, chance.randint(0, 25), book)))
        found.append((run(one, chance.randint(0, 25), book), one))
        found.append((one, Scene(one.web, [chance.randrange(3) for _ in range(size)])))
    return found


CASES = small_cases()


class LeadingTest(Case):

    def check(self, one, two, beats):
        """Check each field of what is found; return whether it is a book."""
        found = leading(one, two, beats)
        self.assertIs(type(found), Leading)
        if found.book is not None:
            self.same((found.ring, found.place, found.lag, found.waits), (None,) * 4)
            self.assertTrue(all(beat < beats for beat, _ in found.book.pokes))
            self.equal(run(one, beats, found.book), two)
            self.same(pictures_of(one, beats, found.book.pokes)[-1], two.picture)
        elif found.ring is not None:
            self.same((found.place, found.lag, found.waits), (None,) * 3)
            self.assertNotEqual(sum_of(lead_of, one, found.ring), sum_of(lead_of, two, found.ring))
            self.check_ring(one.web, found.ring)
        else:
            ahead, waited = lags(turned(one, beats), two), waits(one, beats)
            short = [place for place in range(one.web.size) if ahead[place] > waited[place]]
            self.same((found.place, found.lag, found.waits), (short[0], ahead[short[0]], waited[short[0]]))
        self.assertIs(can_lead(one, two, beats), found.book is not None)
        return found.book is not None

    def check_ring(self, web, ring):
        """Check that it is a ring of the web."""
        near = near_of(web)
        self.assertIs(type(ring), tuple)
        self.assertEqual(ring[0], ring[-1])
        self.assertGreater(len(ring), 1)
        self.assertTrue(all(b in near[a] for a, b in zip(ring, ring[1:])))

    def test_trying_all_books(self):
        chance = random.Random(321)
        answers = []
        for one, two, reach in CASES:
            for beats in list(range(0, 9)) + [chance.randint(9, 40), chance.randint(41, 200)]:
                answers.append(two.picture in reach.at(beats))
                self.assertIs(self.check(one, two, beats), answers[-1])
        self.assertGreater(answers.count(True), 500)
        self.assertGreater(answers.count(False), 500)

    def test_far_beats(self):
        answers = []
        for one, two, reach in CASES[::2]:
            for beats in (FAR, FAR - 1, 10 ** 39 + 1, 10 ** 20, 201, 202, 203):
                answers.append(two.picture in reach.at(beats))
                self.assertIs(can_lead(one, two, beats), answers[-1])
        self.assertEqual(set(answers), {True, False})

    def test_all_beats_of_one_scene(self):
        one = Scene(TAILED, [0, 0, 1, 2])
        reach = Reach(followers(TAILED), one.picture)
        for picture in itertools.product(range(3), repeat=4):
            for beats in range(25):
                self.assertIs(self.check(one, Scene(TAILED, picture), beats), picture in reach.at(beats))

    def test_larger_scenes(self):
        answers = []
        for one, two in larger_pairs(322, 60):
            for beats in (0, 1, 7, 26, 100, 200):
                answers.append(self.check(one, two, beats))
        self.assertGreater(answers.count(True), 100)
        self.assertGreater(answers.count(False), 100)

    def test_far_on_larger_scenes(self):
        for one, two in larger_pairs(323, 40):
            least = least_beats(one, two)
            for beats in (FAR, FAR - 1, FAR - 2):
                wanted = why_never(one, two) is None
                residues = [beats - least] if wanted else []
                if any(difference % 3 == 0 for difference in residues):
                    self.assertIs(can_lead(one, two, beats), True)
                if not wanted:
                    self.assertIs(can_lead(one, two, beats), False)

    def test_named_cases(self):
        web = Web(2, [(0, 1)])
        one, two = Scene(web, [0, 1]), Scene(web, [0, 0])
        found = self.ask(leading, one, two, 2)
        self.same((found.book, found.ring, found.place, found.lag, found.waits), (None, None, 0, 2, 0))
        for one, two, _ in CASES[::40]:
            self.ask(leading, one, two, 9)
            self.ask(can_lead, one, two, FAR)
        one, two = Scene(web, [0, 1]), Scene(web, [0, 0])
        found = leading(beats=3, two=two, one=one)
        self.equal(found.book, Book())
        self.assertIs(can_lead(beats=3, two=two, one=one), True)
        found = leading(ring_scene(4), all_ready(Web(4, ring_lines(4))), 9)
        self.same(sorted(found.ring[1:]), [0, 1, 2, 3])
        self.assertIsNone(found.book)
        found = leading(NOTHING, NOTHING, 7)
        self.equal(found.book, Book())
        self.assertIs(can_lead(NOTHING, NOTHING, FAR), True)
        for state, other, beats in itertools.product(range(3), range(3), range(7)):
            pair = Scene(Web(1), [state]), Scene(Web(1), [other])
            reach = Reach(followers(Web(1)), (state,))
            self.assertIs(self.check(*pair, beats), (other,) in reach.at(beats))

    def test_webs_differ(self):
        one = ring_scene(4)
        for two in (ring_scene(5), NOTHING, Scene(Web(4), one.picture), beside(one, one)):
            for pair in ((one, two), (two, one)):
                self.fails("WebsDiffer", (), leading, *pair, 3)
                self.fails("WebsDiffer", (), can_lead, *pair, FAR)
                self.fails("WebsDiffer", (), why_never, *pair)
                self.fails("WebsDiffer", (), least_beats, *pair)
                for why in (("unlike", (0, 1, 0)), ("tight", (), 0), ("apart", (), (9,))):
                    self.fails("WebsDiffer", (), is_never, *pair, why)


def is_tight_ring(scene, ring):
    """Tell whether it is a ring that is three times as long as its lead sum."""
    return is_ring_of(scene.web, ring) and len(ring) - 1 == 3 * sum_of(lead_of, scene, ring)


def is_ring_of(web, ring):
    """Tell whether it is a ring of the web."""
    near = near_of(web)
    return (len(ring) > 1 and ring[0] == ring[-1] and ring[0] in near
            and all(b in near[a] for a, b in zip(ring, ring[1:])))


def shows(one, two, why):
    """Tell whether the tuple shows one of the three reasons, by the words of the point."""
    word, ring = why[0], why[1]
    if word == "unlike":
        return is_ring_of(one.web, ring) and sum_of(lead_of, one, ring) != sum_of(lead_of, two, ring)
    if not is_tight_ring(one, ring):
        return False
    if word == "tight":
        piece = [piece for piece in pieces_of(one.web) if ring[0] in piece][0]
        ahead = lags(one, two)
        return ahead is not None and why[2] in piece and ahead[why[2]] < ahead[ring[0]]
    if not is_tight_ring(one, why[2]):
        return False
    return (one.picture[ring[0]] - two.picture[ring[0]]
            - one.picture[why[2][0]] + two.picture[why[2][0]]) % 3 != 0


def tight_scene(chance, size, more):
    """Return a scene with tight rings and other pieces."""
    lines, picture = [], []
    for many in (size, more):
        lines += ring_lines(many, len(picture))
        picture += [(place + chance.randrange(3)) % 3 if many % 3 else place % 3 for place in range(many)]
    lines.append((0, len(picture)))
    return Scene(Web(len(picture) + 2, lines), picture + [chance.randrange(3), 0])


class NeverTest(Case):

    def check(self, one, two):
        """Check the reason that is found; return its first word."""
        why = why_never(one, two)
        if why is None:
            self.assertIsNotNone(least_beats(one, two))
            return None
        self.assertIs(shows(one, two, why), True)
        self.assertIs(self.ask(is_never, one, two, why), True)
        self.assertIsNone(least_beats(one, two))
        return why[0]

    def some_pairs(self):
        """Return pairs of scenes for all kinds of reasons."""
        chance = random.Random(324)
        pairs = [(one, two) for one, two, _ in CASES[::5]] + larger_pairs(325, 20)
        for _ in range(60):
            one = tight_scene(chance, chance.choice((3, 6)), chance.choice((3, 4, 5, 6)))
            pokes = Book(random_pokes(chance, 12, 12, one.web.size))
            two = run(one, chance.randint(0, 12), pokes)
            pairs += [(one, two), (two, one), (mirror(one), mirror(two)), (mirror(two), mirror(one))]
            two = beside(turned(ring_scene(3), chance.randrange(3)), turned(ring_scene(3), chance.randrange(3)))
            pairs.append((ring_scene(3, 3), two))
        return pairs

    def test_never_against_all_books(self):
        words = set()
        for one, two, reach in CASES:
            word = self.check(one, two)
            words.add(word)
            self.assertIs(word is None, reach.least(two.picture) is not None)
        self.assertEqual(words, {None, "unlike", "tight", "apart"})

    def test_reasons(self):
        words = [self.check(one, two) for one, two in self.some_pairs()[::2]]
        for word in (None, "unlike", "tight", "apart"):
            self.assertGreater(words.count(word), 8)

    def changed(self, one, why):
        """Return tuples with one thing changed."""
        found = [("unlike", why[1]), ("tight", why[1], 0), ("apart", why[1], why[1])]
        rings = [index for index in range(1, len(why)) if isinstance(why[index], tuple)]
        for at in rings:
            ring = why[at]
            tries = [(), ring[:-1], ring[1:], ring[::-1], ring[:1], ring + ring[1:], (ring[0],) * 2]
            for index in range(len(ring)):
                for other in (0, one.web.size - 1, one.web.size, -1, FAR):
                    tries.append(ring[:index] + (other,) + ring[index + 1:])
            tries += [piece_ring for piece_ring in rings_within(one.web, 3)[:6]]
            tries.append(tuple(range(3, 6)) + (3,))
            found += [why[:at] + (tried,) + why[at + 1:] for tried in tries]
        if why[0] == "tight":
            found += [why[:2] + (place,) for place in list(range(one.web.size)) + list(NO_PLACES)]
            found.append(why[:2] + (one.web.size,))
        return found

    def test_is_never(self):
        answers = {}
        for one, two in self.some_pairs()[::2]:
            why = why_never(one, two)
            if why is None:
                why = ("tight", (0, 1, 0), 0)
            for tried in self.changed(one, why):
                wanted = shows(one, two, tried)
                self.assertIs(is_never(one, two, tried), wanted)
                answers.setdefault((tried[0], wanted), []).append(tried)
        self.assertEqual(len(answers), 6)

    def test_named_reasons(self):
        one = Scene(TAILED, [0, 1, 2, 1])
        two = Scene(TAILED, [0, 1, 2, 2])
        self.assertIs(self.ask(is_never, one, two, ("tight", (0, 1, 2, 0), 3)), True)
        for why in (("tight", (0, 1, 2, 0), 2), ("tight", (0, 2, 1, 0), 3), ("tight", (2, 3, 2), 3),
                    ("tight", (0, 1, 2, 0), 4), ("tight", (0, 1, 2, 0), -1), ("tight", (), 3),
                    ("tight", (3, 3), 3), ("tight", (0, 1, 2), 3), ("unlike", (0, 1, 2, 0)),
                    ("apart", (0, 1, 2, 0), (0, 1, 2, 0)), ("apart", (), ()), ("unlike", ())):
            self.assertIs(self.ask(is_never, one, two, why), False)
        self.assertIs(is_never(why=("tight", (0, 1, 2, 0), 3), two=two, one=one), True)
        self.assertIsNone(why_never(two=one, one=one))
        self.assertIsNone(least_beats(two=two, one=one))
        self.same(least_beats(one, one), 0)
        for reason in (why_never, least_beats):
            for pair in CASES[::40]:
                self.ask(reason, *pair[:2])
        both = ring_scene(3, 3)
        two = beside(ring_scene(3), turned(ring_scene(3), 1))
        ring, other = (0, 2, 1, 0), (3, 5, 4, 3)
        rings = [ring if is_tight_ring(both, ring) else ring[::-1] for ring in (ring, other)]
        self.assertIs(is_never(both, two, ("apart", rings[0], rings[1])), True)
        self.assertIs(is_never(both, two, ("apart", rings[0], rings[0])), False)
        self.assertIs(is_never(both, two, ("apart", rings[0], rings[1][::-1])), False)
        self.assertIs(is_never(both, both, ("apart", rings[0], rings[1])), False)
        self.same(why_never(both, two)[0], "apart")
        self.assertIsNone(why_never(NOTHING, NOTHING))
        self.assertIs(is_never(NOTHING, NOTHING, ("unlike", (0, 0))), False)

    def test_a_place_of_another_piece(self):
        one = beside(Scene(TAILED, [0, 1, 2, 1]), Scene(Web(1), [0]))
        two = beside(Scene(TAILED, [0, 1, 2, 2]), Scene(Web(1), [1]))
        two_behind = beside(Scene(TAILED, [2, 0, 1, 0]), Scene(Web(1), [0]))
        self.assertIs(is_never(one, two, ("tight", (0, 1, 2, 0), 4)), False)
        self.same(lags(one, two_behind)[:3], (1, 1, 1))
        self.same(lags(one, two_behind)[4], 0)
        self.assertIs(is_never(one, two_behind, ("tight", (0, 1, 2, 0), 4)), False)
        self.assertIs(is_never(one, two, ("tight", (0, 1, 2, 0), 3)), True)


class LeastBeatsTest(Case):

    def test_trying_one_after_the_other(self):
        found = set()
        for one, two, reach in CASES:
            least = reach.least(two.picture)
            found.add(least)
            self.same(least_beats(one, two), least)
            self.assertIs(least is None, why_never(one, two) is not None)
        self.assertGreater(len(found), 8)

    def check(self, one, two):
        """Check the least beats of larger scenes."""
        least = least_beats(one, two)
        self.assertIs(least is None, why_never(one, two) is not None)
        self.same(least_beats(mirror(two), mirror(one)), least)
        if least is None:
            return
        size = one.web.size
        self.assertLessEqual(least, 3 * sum(lags(one, two)) + 6 * size + 3)
        tried = [can_lead(one, two, beats) for beats in range(least + 4)]
        self.assertIs(any(tried[:least]), False)
        self.assertIs(tried[least], True)
        self.assertIs(tried[least + 3], True)

    def test_larger_scenes(self):
        for one, two in larger_pairs(326, 14):
            self.check(one, two)

    def test_later_and_mirrored(self):
        for one, two, reach in CASES[::3]:
            for beats in range(12):
                if can_lead(one, two, beats):
                    self.assertIs(can_lead(one, two, beats + 3), True)
                self.assertIs(can_lead(mirror(two), mirror(one), beats), can_lead(one, two, beats))

    def test_long_ways(self):
        for size in (10, 30, 60):
            web = Web(size, thread_lines(size))
            for one, two in ((all_ready(web), Scene(web, [k % 3 for k in range(size)])),
                             (Scene(web, [-k % 3 for k in range(size)]), Scene(web, [k % 3 for k in range(size)])),
                             (Scene(web, [k % 3 for k in range(size)]), all_ready(web))):
                least = least_beats(one, two)
                self.assertLessEqual(least, 3 * sum(lags(one, two)) + 6 * size + 3)
                self.assertIs(can_lead(one, two, least), True)
                for sooner in (1, 2, 3):
                    if least >= sooner:
                        self.assertIs(can_lead(one, two, least - sooner), False)
                self.same(least_beats(mirror(two), mirror(one)), least)
        self.same(least_beats(NOTHING, NOTHING), 0)


if __name__ == "__main__":
    unittest.main()
