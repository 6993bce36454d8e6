"""Paced shares and their papers: points 36 and 37."""

import itertools
import math
import random
import unittest

from firerest.books import Pace
from firerest.repeats import repeat
from firerest.scenes import Scene, all_ready, beside
from firerest.shares import is_share_ring, share, share_paper
from firerest.webs import Web
from firerest.wheels import PacedPaper, are_paced_slopes, is_paced_ring, paced_paper, paced_share
from tests.support import FAR, NO_PLACES, Case, lead_of, near_of, next_picture, pieces_of
from tests.support import random_scene, random_scenes, ring_lines, ring_scene, thread_lines

NOTHING = Scene(Web(0), [])


def pokes_at(pace, beat):
    """Return the places that are poked at a beat."""
    return [place for phase, place in pace.pokes if beat % pace.period == phase]


def share_under(scene, piece, pace):
    """Return the share of a piece by running until picture and phase come back; an oracle."""
    number = {place: index for index, place in enumerate(piece)}
    near = {number[a]: [number[b] for b in near_of(scene.web)[a]] for a in piece}
    states = tuple(scene.picture[place] for place in piece)
    poked = [[number[place] for place in pokes_at(pace, phase) if place in number]
             for phase in range(pace.period)]
    seen, fires, beat = {}, [0] * len(piece), 0
    while (beat % pace.period, states) not in seen:
        seen[(beat % pace.period, states)] = (beat, list(fires))
        states = next_picture(near, states, poked[beat % pace.period])
        fires = [many + (state == 1) for many, state in zip(fires, states)]
        beat += 1
    then, before = seen[(beat % pace.period, states)]
    gains = {now - old for now, old in zip(fires, before)}
    assert len(gains) == 1
    gain = gains.pop()
    common = math.gcd(gain, beat - then)
    return gain // common, (beat - then) // common


def wheel_gain_of(scene, pace, ring):
    """Return the gain of a wheel ring, or None if it is none, by the words of the points."""
    if len(ring) < 2 or not 0 <= ring[0][0] < scene.web.size:
        return None
    total = 0
    for (place, beat), (other, earlier) in zip(ring, ring[1:]):
        if beat < 1 or earlier < 0:
            return None
        if (other, earlier) == (place, beat - 1):
            total += 0
        elif earlier == beat - 1 and other in near_of(scene.web)[place]:
            total += lead_of(scene, place, other)
        elif (other, earlier) == (place, beat - 3) and place in pokes_at(pace, beat - 1):
            total += 1
        else:
            return None
    beats = ring[0][1] - ring[-1][1]
    if ring[0][0] != ring[-1][0] or beats <= 0 or beats % pace.period != 0:
        return None
    return total if 0 <= ring[-1][1] < pace.period else None


def ring_holds(scene, pace, p, q, ring):
    """Tell whether this is a wheel ring with the share."""
    total = wheel_gain_of(scene, pace, ring)
    return total is not None and total * q == p * (ring[0][1] - ring[-1][1])


def slopes_hold(scene, piece, pace, p, q, rows):
    """Tell whether these are paced slopes, by the words of the point."""
    if len(rows) != len(piece) or any(len(row) != pace.period for row in rows):
        return False
    row = dict(zip(piece, rows))

    def slope(place, phase):
        return row[place][phase % pace.period]

    for a in piece:
        for f in range(pace.period):
            if not -p <= slope(a, f) - slope(a, f - 1):
                return False
            for b in near_of(scene.web)[a]:
                if not q * lead_of(scene, a, b) - p <= slope(a, f) - slope(b, f - 1):
                    return False
            if a in pokes_at(pace, f) and not q - 3 * p <= slope(a, f + 1) - slope(a, f - 2):
                return False
    return True


def random_pace(chance, size, most=9):
    """Return a pace with some pokes, also at numbers that are no places."""
    period = chance.randint(1, most)
    pokes = [(chance.randrange(period), chance.randint(0, size + 1)) for _ in range(chance.randint(0, 5))]
    return Pace(period, pokes)


def some_cases(seed, many, most):
    """Return scenes with paces."""
    chance = random.Random(seed)
    found = [(scene, random_pace(chance, scene.web.size)) for scene in random_scenes(seed + 1, many, most)]
    for _ in range(many):
        size = chance.randint(3, most)
        lines = ring_lines(size) + [chance.sample(range(size), 2) for _ in range(chance.randint(0, 3))]
        scene = Scene(Web(size, lines), [chance.randrange(3) for _ in range(size)])
        found.append((scene, random_pace(chance, size, 15)))
    return found


class PacedShareTest(Case):

    def test_against_long_runs(self):
        found = set()
        for scene, pace in some_cases(240, 120, 10):
            for piece in pieces_of(scene.web):
                wanted = share_under(scene, piece, pace)
                found.add(wanted)
                for place in piece[:1] + piece[-1:]:
                    self.same(paced_share(scene, place, pace), wanted)
                self.assertLessEqual(3 * wanted[0], wanted[1])
        self.assertGreater(len(found), 12)

    def test_all_paces_of_small_scenes(self):
        scenes = [Scene(Web(1), [1]), Scene(Web(2, [(0, 1)]), [0, 2]), Scene(Web(2), [1, 0]),
                  Scene(Web(3, ring_lines(3)), [0, 1, 2])]
        for period in range(1, 5):
            pairs = list(itertools.product(range(period), range(2)))
            for many in range(4):
                for pokes in itertools.combinations(pairs, many):
                    pace = Pace(period, pokes)
                    for scene in scenes:
                        for piece in pieces_of(scene.web):
                            found = paced_share(scene, piece[0], pace)
                            self.same(found, share_under(scene, piece, pace))

    def test_without_pokes(self):
        for scene in random_scenes(242, 30, 12) + [ring_scene(7, 4)]:
            for place in range(scene.web.size):
                for pace in (Pace(1), Pace(4), Pace(7, [(3, scene.web.size), (0, FAR)])):
                    self.same(paced_share(scene, place, pace), share(scene, place))

    def test_named_shares(self):
        one = Scene(Web(1), [2])
        for period in range(1, 61):
            pace = Pace(period, [(period - 1, 0)])
            self.same(self.ask(paced_share, one, 0, pace), (1, period * -(-3 // period)))
        self.same(paced_share(one, 0, Pace(7, [(0, 0), (3, 0)])), (2, 7))
        self.same(paced_share(one, 0, Pace(7, [(0, 0), (2, 0)])), (1, 7))
        self.same(paced_share(one, 0, Pace(7, [(0, 0), (5, 0)])), (1, 7))
        self.same(paced_share(one, 0, Pace(7, [(k, 0) for k in range(7)])), (1, 3))
        two = beside(ring_scene(4), all_ready(Web(2, [(0, 1)])))
        pace = Pace(10, [(0, 4), (5, 5)])
        self.same([paced_share(two, place, pace) for place in range(6)], [(1, 4)] * 4 + [(1, 5)] * 2)
        self.same(paced_share(pace=pace, place=5, scene=two), (1, 5))

    def test_no_place(self):
        two = beside(ring_scene(3), all_ready(Web(1)))
        pace = Pace(2, [(0, 3), (1, 4)])
        for place in NO_PLACES + (4,):
            self.fails("NoPlace", (place,), paced_share, two, place, pace)
            self.fails("NoPlace", (place,), paced_paper, two, place, pace)
            for rows in ((), ((0, 0),)):
                self.fails("NoPlace", (place,), are_paced_slopes, two, place, pace, (0, 1), rows)
        for function in (paced_share, paced_paper):
            self.fails("NoPlace", (0,), function, NOTHING, 0, Pace(1))
        self.fails("NoPlace", (0,), are_paced_slopes, NOTHING, 0, Pace(1), (1, 3), ())


class PacedPaperTest(Case):

    def check(self, scene, piece, place, pace):
        """Check a paper against the words of the points."""
        kept = (pace.period, pace.pokes)
        paper = self.ask(paced_paper, scene, place, pace)
        self.assertIs(type(paper), PacedPaper)
        self.same(paced_share(scene, place, pace), paper.share)
        self.assertEqual(math.gcd(*paper.share), 1)
        if paper.share[0] == 0:
            self.same(paper.share, (0, 1))
            self.same(paper.ring, ())
        else:
            self.assertTrue(all(place in piece for place, _ in paper.ring))
            self.assertIs(ring_holds(scene, pace, *paper.share, paper.ring), True)
            self.assertIs(is_paced_ring(scene, pace, paper.share, paper.ring), True)
        self.assertIs(slopes_hold(scene, piece, pace, *paper.share, paper.slopes), True)
        self.assertIs(are_paced_slopes(scene, place, pace, paper.share, paper.slopes), True)
        self.same((pace.period, pace.pokes), kept)

    def test_papers(self):
        for scene, pace in some_cases(243, 60, 9):
            for piece in pieces_of(scene.web):
                self.check(scene, piece, piece[-1], pace)
        for period in (1, 2, 3, 4):
            self.check(Scene(Web(1), [0]), (0,), 0, Pace(period, [(0, 0)]))
            self.check(Scene(Web(1), [0]), (0,), 0, Pace(period))
        paper = paced_paper(pace=Pace(3), place=0, scene=Scene(Web(1), [1]))
        self.same((paper.share, paper.ring, len(paper.slopes[0])), ((0, 1), (), 3))

    def test_long_periods(self):
        chance = random.Random(245)
        for many in (60, 66, 90):
            scene = random_scene(chance, 60, many)
            pokes = [(chance.randrange(60), chance.randrange(60)) for _ in range(400 if many == 90 else 8)]
            piece = max(pieces_of(scene.web), key=len)
            pace = Pace(60, pokes)
            self.check(scene, piece, piece[0], pace)
            self.same(paced_share(scene, piece[0], pace), share_under(scene, piece, pace))
        scene = Scene(Web(60, ring_lines(60)), [0, 0, 1, 2] * 15)
        self.check(scene, tuple(range(60)), 7, Pace(59, [(k, 7 * k % 60) for k in range(0, 59, 4)]))

    def test_close_shares(self):
        # A ring whose waves are nearly as many as the pokes bring to the other one.
        scene = Scene(Web(40, ring_lines(19) + ring_lines(21, 19) + [(0, 19)]), [1, 2] + [0] * 38)
        for step in (18, 19, 20, 21):
            for period in (step, 3 * step - 1):
                pace = Pace(period, [(phase, 30) for phase in range(0, period - 3, step)])
                self.check(scene, tuple(range(40)), 3, pace)
                self.same(paced_share(scene, 3, pace), share_under(scene, tuple(range(40)), pace))

    def test_plain_papers_with_period_one(self):
        for scene in random_scenes(246, 30, 9) + [ring_scene(4)]:
            for piece in pieces_of(scene.web):
                paper = paced_paper(scene, piece[0], Pace(1))
                self.same(paper.share, share(scene, piece[0]))
                if paper.ring:
                    ring = [place for place, _ in paper.ring]
                    self.assertIs(is_share_ring(scene, paper.share, ring), True)


class JudgesTest(Case):

    def judge(self, scene, pace, pair, ring):
        """Check the answer for a sequence of pairs."""
        wanted = ring_holds(scene, pace, *pair, ring)
        self.assertIs(is_paced_ring(scene, pace, pair, ring), wanted)
        return wanted

    def test_random_ways_round(self):
        chance = random.Random(247)
        answers = []
        for scene, pace in some_cases(248, 80, 6):
            if scene.web.size == 0:
                continue
            for _ in range(12):
                place = chance.randrange(scene.web.size)
                beat = chance.randint(0, 4) + pace.period * chance.randint(0, 2)
                ring = [(place, beat)]
                while beat > 0 and chance.random() < 0.9:
                    near = near_of(scene.web)[place]
                    if place in pokes_at(pace, beat - 1) and beat > 2:
                        beat -= 3
                    else:
                        beat, place = beat - 1, chance.choice(near + [place])
                    ring.append((place, beat))
                total = wheel_gain_of(scene, pace, ring) or 0
                beats = ring[0][1] - ring[-1][1]
                for pair in ((0, 1), (0, 5), (max(total, 0), max(beats, 1)), (3 * abs(total), 3 * beats + 1)):
                    answers.append(self.judge(scene, pace, pair, ring))
        self.assertGreater(answers.count(True), 50)
        self.assertGreater(answers.count(False), 500)

    def test_changed_rings(self):
        for scene, pace in some_cases(250, 15, 6):
            for piece in pieces_of(scene.web):
                paper = paced_paper(scene, piece[0], pace)
                ring, pair = paper.ring, paper.share
                if not ring:
                    continue
                self.assertIs(self.ask(is_paced_ring, scene, pace, pair, ring), True)
                self.assertIs(self.judge(scene, pace, (7 * pair[0], 7 * pair[1]), ring), True)
                self.assertIs(self.judge(scene, pace, (pair[0] + 1, pair[1]), ring), False)
                for move in (1, -1, pace.period, -pace.period, FAR):
                    self.judge(scene, pace, pair, [(place, beat + move) for place, beat in ring])
                for index, (place, beat) in enumerate(ring):
                    for other in ((place, beat + 1), (place, beat - 1), (place, beat - 3), (place, beat + FAR),
                                  (place + 1, beat), (place - 1, beat), (-1, beat), (FAR, beat)):
                        self.judge(scene, pace, pair, ring[:index] + (other,) + ring[index + 1:])
                    self.judge(scene, pace, pair, ring[:index])
                    self.judge(scene, pace, pair, ring[index:])
                    self.judge(scene, pace, pair, ring[:index] + ring[index + 1:])

    def test_named_rings(self):
        scene = all_ready(Web(2, [(0, 1)]))
        pace = Pace(5, [(0, 0)])
        good = [(0, 6), (0, 3), (0, 2), (0, 1)]
        self.assertIs(self.ask(is_paced_ring, scene, pace, (1, 5), good), True)
        self.assertIs(is_paced_ring(ring=good, share=(3, 15), pace=pace, scene=scene), True)
        wrong = (
            [], [(0, 5)], [(0, 0)], good[:3], good[1:],
            [(0, 6), (1, 5), (0, 4), (0, 3), (0, 1)],
            [(0, 11), (0, 8), (0, 7), (0, 6)],
            [(1, 6), (0, 5), (0, 4), (0, 3), (0, 2), (0, 1)],
            [(0, 2), (0, 1), (0, 0), (0, -1), (0, -2), (0, -3)],
            [(0, 1), (0, -2), (0, -3), (0, -4)],
            [(1, 6), (1, 3), (1, 2), (1, 1)],
            [(2, 6), (2, 5), (2, 4), (2, 3), (2, 2), (2, 1)],
            [(-1, 5), (-1, 4), (-1, 3), (-1, 2), (-1, 1), (-1, 0)],
            [(0, 1), (0, 6)], [(0, 1), (0, 1)], [(0, 6), (0, 1)],
        )
        for ring in wrong:
            for pair in ((0, 1), (1, 5), (1, 3)):
                self.assertIs(self.judge(scene, pace, pair, ring), False)
                self.assertIs(is_paced_ring(NOTHING, pace, pair, ring), False)
        stays = [(1, 9), (1, 8), (1, 7), (1, 6), (1, 5), (1, 4)]
        self.assertIs(self.judge(scene, pace, (0, 3), stays), True)
        self.assertIs(self.judge(scene, pace, (1, 5), stays), False)

    def test_slopes(self):
        answers = []
        for scene, pace in some_cases(251, 12, 6):
            for piece in pieces_of(scene.web):
                paper = paced_paper(scene, piece[0], pace)
                rows = paper.slopes
                tries = [rows, rows[:-1], rows + rows[:1], rows[::-1], (), rows[:-1] + (rows[-1][:-1],),
                         rows[:-1] + (rows[-1] + (0,),),
                         tuple(tuple(slope - FAR for slope in row) for row in rows)]
                for index in range(len(piece)):
                    for phase in range(pace.period):
                        for more in (-1, 1, 4):
                            row = list(rows[index])
                            row[phase] += more
                            tries.append(rows[:index] + (tuple(row),) + rows[index + 1:])
                p, q = paper.share
                for tried in tries:
                    for pair in ((p, q), (3 * p, 3 * q), (p + 1, q), (0, 1)):
                        wanted = slopes_hold(scene, piece, pace, *pair, tried)
                        self.assertIs(are_paced_slopes(scene, piece[-1], pace, pair, tried), wanted)
                        answers.append(wanted)
                self.assertIs(self.ask(are_paced_slopes, scene, piece[0], pace, (p, q), rows), True)
        self.assertEqual(set(answers), {True, False})

    def test_each_kind_of_slope(self):
        one = all_ready(Web(1))
        pace = Pace(4, [(1, 0)])
        rows = paced_paper(one, 0, pace).slopes
        self.same(paced_share(one, 0, pace), (1, 4))
        # The poked stay leads from phase 2 to phase 3, the stays lead on from there.
        row = rows[0]
        for change in ((0, 0, -1, 0), (0, 0, 0, 1), (-1, 0, 0, 0), (0, -1, 0, 0)):
            moved = tuple(a + b for a, b in zip(row, change))
            wanted = slopes_hold(one, (0,), pace, 1, 4, (moved,))
            self.assertIs(are_paced_slopes(one, 0, pace, (1, 4), (moved,)), wanted)
        self.assertIs(are_paced_slopes(slopes=rows, share=(1, 4), pace=pace, place=0, scene=one), True)
        thread = Scene(Web(2, thread_lines(2)), [0, 1])
        self.assertIs(are_paced_slopes(thread, 0, Pace(2), (0, 1), ((1, 1), (0, 0))), True)
        self.assertIs(are_paced_slopes(thread, 0, Pace(2), (0, 1), ((0, 1), (0, 0))), False)
        self.assertIs(are_paced_slopes(thread, 0, Pace(2), (0, 1), ((1, 2), (0, 1))), False)

    def test_gain_in_a_repeat(self):
        for scene, pace in some_cases(253, 25, 9):
            found = repeat(scene, pace)
            for place in range(scene.web.size):
                p, q = paced_share(scene, place, pace)
                self.assertEqual(found.gains[place] * q, p * found.period)
                if not pace.pokes:
                    self.same(share_paper(scene, place).share, (p, q))


if __name__ == "__main__":
    unittest.main()
