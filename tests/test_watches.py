"""Watches: point 52."""

import itertools
import random
import unittest

from firerest.scenes import Scene, all_ready
from firerest.watches import Watch
from firerest.webs import Web
from tests.support import FAR, NO_PLACES, Case, random_pokes, random_scenes, records_of, ring_scene
from tests.support import thread_lines

NOTHING = Scene(Web(0), [])


def fault_of(scene, beats, records):
    """Return the index of the first wrong record, by the words of the point, or None."""
    for index, (place, states) in enumerate(records):
        if not 0 <= place < scene.web.size:
            return index
        if place in [earlier for earlier, _ in records[:index]]:
            return index
        if len(states) != beats + 1 or any(state not in (0, 1, 2) for state in states):
            return index
        if states[0] != scene.picture[place]:
            return index
        if any((here, there) not in ((1, 2), (2, 0), (0, 0), (0, 1))
               for here, there in zip(states, states[1:])):
            return index
    return None


class WatchTest(Case):

    def check(self, scene, beats, records, suspects):
        """Check a watch, or the record that is wrong."""
        fault = fault_of(scene, beats, records)
        if fault is not None:
            self.fails("BadRecord", (fault,), Watch, scene, beats, records, suspects)
            return False
        watch = self.ask(Watch, scene, beats, records, suspects)
        self.assertIs(watch.scene, scene)
        self.same(watch.beats, beats)
        self.same(watch.records, tuple(sorted((place, tuple(states)) for place, states in records)))
        self.same(watch.suspects, tuple(sorted(set(suspects))))
        return True

    def test_records_of_runs(self):
        chance = random.Random(340)
        for scene in random_scenes(341, 80, 25):
            size, beats = scene.web.size, chance.choice((0, 1, 2, 9, 60))
            places = chance.sample(range(size), chance.randint(0, size))
            records = records_of(scene, beats, random_pokes(chance, 20, beats, size), places)
            suspects = [chance.randrange(size) for _ in range(chance.randint(0, 12) if size else 0)]
            self.assertIs(self.check(scene, beats, records, suspects), True)
            self.assertIs(self.check(scene, beats, [], suspects + suspects[::-1]), True)
            self.assertIs(self.check(scene, beats, records[::-1], []), True)

    def test_all_short_records(self):
        answers = []
        for state in range(3):
            scene = Scene(Web(2, [(0, 1)]), [state, 0])
            for beats in range(4):
                for many in range(beats + 2):
                    for states in itertools.product((-1, 0, 1, 2, 3), repeat=many):
                        answers.append(self.check(scene, beats, [(0, states)], [1]))
        self.assertEqual(set(answers), {True, False})

    def test_spoiled_records(self):
        chance = random.Random(342)
        answers = []
        for scene in random_scenes(343, 120, 6):
            size, beats = scene.web.size, chance.randint(0, 7)
            if size == 0:
                continue
            places = chance.sample(range(size), chance.randint(1, size))
            records = records_of(scene, beats, random_pokes(chance, 9, beats, size), places)
            for _ in range(6):
                tried = list(records)
                index = chance.randrange(len(tried))
                place, states = tried[index]
                at = chance.randrange(beats + 1)
                tried[index] = chance.choice((
                    (chance.randint(-1, size), states), (place, states[:-1]), (place, states + (0,)),
                    (place, states[:at] + (chance.randint(-1, 3),) + states[at + 1:]),
                    (place, ()), (FAR, states), (place, states[:at] + (-FAR,) + states[at + 1:])))
                answers.append(self.check(scene, beats, tried, [0]))
                self.check(scene, beats, tried + tried[:1], [size - 1, 0])
        self.assertGreater(answers.count(True), 30)
        self.assertGreater(answers.count(False), 200)

    def test_each_reason(self):
        scene = all_ready(Web(3, thread_lines(3)))
        good = [(2, [0, 0, 1]), (0, [0, 1, 2])]
        self.assertIs(self.check(scene, 2, good, [1, 1, 0]), True)
        for record in ((3, [0, 0, 0]), (-1, [0, 0, 0]), (2, [0, 0, 1]), (0, [0, 0, 0]), (1, [0, 0]),
                       (1, [0, 0, 0, 0]), (1, []), (1, [1, 2, 0]), (1, [2, 0, 0]), (1, [0, 2, 0]),
                       (1, [0, 1, 1]), (1, [0, 1, 0]), (1, [0, 0, 2]), (1, [0, 0, 3]), (1, [0, -1, 0]),
                       (1, [0, 0, FAR]), (FAR, [0, 0, 0])):
            self.fails("BadRecord", (2,), Watch, scene, 2, good + [record], [])
            self.fails("BadRecord", (2,), Watch, scene, 2, good + [record, (9, [])], [0])
        # The index is the one in the sequence that was passed, not in order of places.
        self.fails("BadRecord", (0,), Watch, scene, 2, [(2, [0, 2, 0])] + good[1:], [0])
        self.fails("BadRecord", (1,), Watch, scene, 2, good[:1] + [(0, [1, 2, 0])], [0])
        self.fails("BadRecord", (0,), Watch, NOTHING, 0, [(0, [0])], [])
        for picture, wrong in (([0, 1, 2], ((0, [0, 2]), (1, [1, 0]), (1, [1, 1]), (2, [2, 1]), (2, [2, 2]))),):
            for record in wrong:
                self.fails("BadRecord", (0,), Watch, Scene(Web(3), picture), 1, [record], [])
            for record in ((0, [0, 0]), (0, [0, 1]), (1, [1, 2]), (2, [2, 0])):
                self.assertIs(self.check(Scene(Web(3), picture), 1, [record], []), True)

    def test_no_place_first(self):
        scene = ring_scene(4)
        bad = [(7, [0]), (0, [])]
        for place in NO_PLACES + (4,):
            for records in ([], bad, [(0, [1, 2])]):
                self.fails("NoPlace", (place,), Watch, scene, 1, records, [0, place, 77])
                self.fails("NoPlace", (place,), Watch, scene, 1, records, [place])
        self.fails("NoPlace", (0,), Watch, NOTHING, 0, [], [0])
        self.fails("BadRecord", (0,), Watch, scene, 1, bad, [0, 3])

    def test_later_changes_and_names(self):
        scene = ring_scene(4)
        states, suspects = [0, 0, 1], [3, 1]
        records = [[2, states], [1, [2, 0, 0]]]
        watch = Watch(suspects=suspects, records=records, beats=2, scene=scene)
        states[1] = 5
        records[1][0] = 3
        records.append([0, [1, 2, 0]])
        suspects.append(0)
        self.same(watch.records, ((1, (2, 0, 0)), (2, (0, 0, 1))))
        self.same(watch.suspects, (1, 3))
        self.same(Watch(NOTHING, 60, [], []).records, ())
        self.same(Watch(NOTHING, 60, (), ()).suspects, ())


if __name__ == "__main__":
    unittest.main()
