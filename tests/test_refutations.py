"""Refutations: point 57."""

import itertools
import random
import unittest

from firerest.refutations import is_refutation, refutation
from firerest.scenes import Scene, all_ready
from firerest.watches import Watch
from firerest.webs import Web
from tests.support import FAR, Case, gap_of, near_of, random_records, random_scene, random_scenes
from tests.support import records_of, ring_lines, ring_scene, runs_with, shows_records, thread_lines

NOTHING = Scene(Web(0), [])


def recorded_turns(watch):
    """Return the turns up to each beat of each recorded place."""
    return {place: [sum(1 for here, there in zip(states[:beat], states[1:beat + 1]) if here != there)
                    for beat in range(watch.beats + 1)]
            for place, states in watch.records}


def free(watch, place, many):
    """Return what the point calls `free`."""
    return many if (watch.scene.picture[place] + many) % 3 == 0 else many + 1


def freed(watch, place, many):
    """Return what the point calls `freed`."""
    return many + 1 if place in watch.suspects else free(watch, place, many)


def cap_reason(watch, near, seen, caps, beat, place):
    """Return the number of the first reason that a cap has, or 0."""
    cap = caps[beat][place]
    if place in seen and seen[place][beat] <= cap:
        return 1
    if beat < watch.beats and caps[beat + 1][place] is not None:
        if free(watch, place, cap + 1) > caps[beat + 1][place]:
            return 2
    if beat < watch.beats:
        for other in near[place]:
            if caps[beat + 1][other] is not None:
                if cap >= caps[beat + 1][other] - gap_of(watch.scene, other, place):
                    return 3
    return 0


def row_reason(watch, near, caps, rows, beat, place):
    """Return the number of the first reason that an item of row `beat + 1` has, or 0."""
    item = rows[beat + 1][place]
    if caps[beat + 1][place] is not None and item >= caps[beat + 1][place]:
        return 1
    if item >= freed(watch, place, rows[beat][place]):
        if all(item >= rows[beat][other] + gap_of(watch.scene, place, other) for other in near[place]):
            return 2
    return 0


def refutes(watch, caps, rows, near=None):
    """Tell whether the tables are a refutation, by the words of the point."""
    near = near or near_of(watch.scene.web)
    seen = recorded_turns(watch)
    places = range(watch.scene.web.size)
    for beat, place in itertools.product(range(watch.beats + 1), places):
        if caps[beat][place] is not None and not cap_reason(watch, near, seen, caps, beat, place):
            return False
    if any(rows[0][place] < 0 for place in places):
        return False
    for beat, place in itertools.product(range(watch.beats), places):
        if not row_reason(watch, near, caps, rows, beat, place):
            return False
    if any(caps[0][place] is not None and caps[0][place] < 0 for place in places):
        return True
    return any(seen[place][beat] > rows[beat][place] for place in seen for beat in range(watch.beats + 1))


def changed(table, beat, place, item):
    """Return the table with another item."""
    row = table[beat][:place] + (item,) + table[beat][place + 1:]
    return table[:beat] + (row,) + table[beat + 1:]


def random_watch(chance, most, beats):
    """Return a watch that may have a story or none."""
    size = chance.randint(1, most)
    scene = random_scene(chance, size, chance.choice((size - 1, size, 2 * size)))
    suspects = chance.sample(range(size), chance.randint(0, size))
    return Watch(scene, beats, random_records(chance, scene, beats, suspects), suspects)


class RefutationTest(Case):

    def check(self, watch):
        """Check the refutation of a watch without a story."""
        found = self.ask(refutation, watch)
        self.assertIs(type(found), tuple)
        caps, rows = found
        for table in (caps, rows):
            self.assertEqual([len(row) for row in table], [watch.scene.web.size] * (watch.beats + 1))
        self.assertTrue(all(type(item) is int for row in rows for item in row))
        self.assertTrue(all(item is None or type(item) is int for row in caps for item in row))
        self.assertIs(refutes(watch, caps, rows), True)
        self.assertIs(self.ask(is_refutation, watch, caps, rows), True)
        return caps, rows

    def judge(self, watch, caps, rows):
        """Check one judgement and return it."""
        answer = is_refutation(watch, caps, rows)
        self.assertIs(answer, refutes(watch, caps, rows))
        return answer

    def test_exactly_if_there_is_no_story(self):
        chance = random.Random(420)
        answers = []
        for _ in range(500):
            watch = random_watch(chance, 3, chance.choice((0, 1, 2, 3)))
            told = any(shows_records(pictures, watch.records)
                       for _, pictures in runs_with(watch.scene, watch.beats, watch.suspects))
            answers.append(told)
            if told:
                self.assertIsNone(self.ask(refutation, watch))
            else:
                self.check(watch)
        self.assertGreater(answers.count(False), 25)
        self.assertGreater(answers.count(True), 200)

    def test_one_item_changed(self):
        chance = random.Random(421)
        answers, many = [], 0
        while many < 60:
            watch = random_watch(chance, 5, chance.randint(1, 6))
            if refutation(watch) is None:
                continue
            many += 1
            caps, rows = self.check(watch)
            for beat, place in itertools.product(range(watch.beats + 1), range(watch.scene.web.size)):
                cap, item = caps[beat][place], rows[beat][place]
                for other in (None, -1, 0, beat, FAR, -FAR) + (() if cap is None else (cap - 1, cap + 1)):
                    answers.append(self.judge(watch, changed(caps, beat, place, other), rows))
                for other in (-1, 0, item - 1, item + 1, FAR, -FAR):
                    answers.append(self.judge(watch, caps, changed(rows, beat, place, other)))
        self.assertGreater(answers.count(True), 2000)
        self.assertGreater(answers.count(False), 2000)

    def test_every_small_table(self):
        # One line, one beat: all tables with small items, for several watches.
        scene = Scene(Web(2, [(0, 1)]), [0, 0])
        watches = [Watch(scene, 1, records, suspects)
                   for records in ([(0, [0, 1])], [(0, [0, 0])], [(0, [0, 1]), (1, [0, 0])], [])
                   for suspects in ((), (0,), (1,), (0, 1))]
        watches += [Watch(Scene(Web(2, [(0, 1)]), picture), 1, [(0, [picture[0], state])], [1])
                    for picture, state in (((0, 1), 0), ((0, 1), 1), ((0, 2), 1), ((1, 0), 2), ((2, 1), 0))]
        cap_rows = list(itertools.product((None, -1, 0, 1), repeat=2))
        item_rows = list(itertools.product((-1, 0, 1), repeat=2))
        told = {}
        for watch in watches:
            for caps in itertools.product(cap_rows, repeat=2):
                for rows in itertools.product(item_rows, repeat=2):
                    answer = self.judge(watch, caps, rows)
                    told[watch] = told.get(watch, False) or answer
        for watch, answer in told.items():
            if answer:
                self.assertIsNotNone(refutation(watch))
        self.assertIn(True, told.values())

    def test_random_tables(self):
        chance = random.Random(422)
        reasons = []
        for _ in range(3000):
            watch = random_watch(chance, 3, chance.choice((1, 2)))
            places = range(watch.scene.web.size)
            caps = tuple(tuple(chance.choice((None, None, -1, 0, 1, 2)) for _ in places)
                         for _ in range(watch.beats + 1))
            rows = tuple(tuple(chance.choice((0, 0, beat, beat)) for _ in places)
                         for beat in range(watch.beats + 1))
            reasons.append(self.judge(watch, caps, rows))
        self.assertGreater(reasons.count(True), 2)

    def test_each_reason_is_needed_somewhere(self):
        chance = random.Random(423)
        cap_reasons, row_reasons, ends = set(), set(), set()
        for _ in range(300):
            watch = random_watch(chance, 4, 4)
            found = refutation(watch)
            if found is None:
                continue
            caps, rows = found
            near, seen = near_of(watch.scene.web), recorded_turns(watch)
            for beat, place in itertools.product(range(5), range(watch.scene.web.size)):
                if caps[beat][place] is not None:
                    cap_reasons.add(cap_reason(watch, near, seen, caps, beat, place))
                if beat < 4:
                    row_reasons.add(row_reason(watch, near, caps, rows, beat, place))
            ends.add(any(cap is not None and cap < 0 for cap in caps[0]))
        self.assertEqual((cap_reasons, row_reasons, ends), ({1, 2, 3}, {1, 2}, {True, False}))

    def test_caps_that_are_all_none(self):
        scene = all_ready(Web(3, thread_lines(3)))
        none = ((None,) * 3,) * 4
        # Place 0 fires, but no suspect's poke could come there in time.
        watch = Watch(scene, 3, [(0, [0, 0, 1, 2])], [2])
        rows = ((0, 0, 0), (0, 0, 1), (0, 1, 2), (1, 2, 3))
        self.assertIs(self.judge(watch, none, rows), True)
        self.assertIs(self.judge(watch, none, ((0,) * 3,) * 4), False)
        self.assertIs(self.judge(watch, none, ((9,) * 3,) * 4), False)
        # The same tables with other records and other suspects.
        for records, suspects, wanted in (
                ([(0, [0, 0, 1, 2])], [], True), ([(0, [0, 0, 1, 2])], [1], False),
                ([(0, [0, 0, 1, 2])], [0, 2], False), ([(0, [0, 0, 0, 1])], [2], False),
                ([(0, [0, 0, 0, 0])], [2], False), ([], [2], False), ([(1, [0, 0, 1, 2])], [2], False),
                ([(1, [0, 1, 2, 0])], [2], True), ([(2, [0, 1, 2, 0])], [2], False)):
            self.assertIs(self.judge(Watch(scene, 3, records, suspects), none, rows), wanted)
        self.check(watch)

    def test_the_same_tables_with_another_watch(self):
        chance = random.Random(424)
        answers = []
        for _ in range(200):
            watch = random_watch(chance, 4, 3)
            found = refutation(watch)
            if found is None:
                continue
            scene = watch.scene
            for suspects in (range(scene.web.size), (), watch.suspects[1:]):
                answers.append(self.judge(Watch(scene, 3, watch.records, suspects), *found))
            answers.append(self.judge(Watch(scene, 3, watch.records[1:], watch.suspects), *found))
            answers.append(self.judge(Watch(scene, 3, [], watch.suspects), *found))
            other = Scene(Web(scene.web.size, ring_lines(scene.web.size)[:2] if scene.web.size > 2 else ()),
                          scene.picture)
            answers.append(self.judge(Watch(other, 3, watch.records, watch.suspects), *found))
        self.assertGreater(answers.count(True), 20)
        self.assertGreater(answers.count(False), 50)

    def test_caps_below_zero(self):
        # The wave comes, whatever is poked: place 2 cannot stand still.
        scene = ring_scene(3)
        self.assertEqual(scene.picture, (1, 2, 0))
        watch = Watch(scene, 2, [(2, [0, 0, 0])], [0, 1, 2])
        caps, _ = self.check(watch)
        self.assertTrue(any(cap is not None and cap < 0 for cap in caps[0]))
        for rows in (((0,) * 3, (1,) * 3, (2,) * 3), ((5,) * 3, (6,) * 3, (7,) * 3)):
            self.assertIs(self.judge(watch, caps, rows), True)
        for rows in (((-1, 0, 0), (1,) * 3, (2,) * 3), ((0,) * 3, (0, 0, 0), (2,) * 3), ((5,) * 3,) * 3):
            self.assertIs(self.judge(watch, caps, rows), False)

    def test_nothing_and_no_beats(self):
        for beats in (0, 3):
            watch = Watch(NOTHING, beats, [], [])
            self.assertIsNone(refutation(watch))
            self.assertIs(self.judge(watch, ((),) * (beats + 1), ((),) * (beats + 1)), False)
        watch = Watch(ring_scene(3), 0, [(0, [1]), (1, [2]), (2, [0])], [])
        self.assertIsNone(refutation(watch))
        for cap, item in itertools.product((None, -1, 0, 1), (-1, 0, 1)):
            self.assertIs(self.judge(watch, ((cap,) * 3,), ((item,) * 3,)), False)

    def test_sixty_places_and_beats(self):
        chance = random.Random(425)
        found = []
        for scene in random_scenes(426, 12, 60) + [all_ready(Web(60, list(itertools.combinations(range(60), 2))))]:
            size = scene.web.size
            if size == 0:
                continue
            pokes = [(chance.randrange(60), chance.randrange(size)) for _ in range(20)]
            records = records_of(scene, 60, pokes, chance.sample(range(size), min(size, 9)))
            for suspects in ([], [0], range(size)):
                watch = Watch(scene, 60, records, suspects)
                found.append(refutation(watch))
                if found[-1] is not None:
                    self.assertIs(is_refutation(watch, *found[-1]), True)
                    self.assertIs(refutes(watch, *found[-1]), True)
        self.assertGreater(found.count(None), 12)
        self.assertLess(found.count(None), len(found))

    def test_names_and_asking_again(self):
        watch = Watch(all_ready(Web(3, thread_lines(3))), 1, [(0, [0, 1])], [2])
        other = Watch(watch.scene, 1, [(0, [0, 1])], [0])
        caps, rows = refutation(watch=watch)
        self.assertIsNone(refutation(other))
        self.same(refutation(watch), (caps, rows))
        self.assertIs(is_refutation(rows=rows, caps=caps, watch=watch), True)
        self.assertIs(is_refutation(caps=caps, watch=other, rows=rows), False)


if __name__ == "__main__":
    unittest.main()
