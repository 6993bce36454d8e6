"""Benches and trials: point 71."""

import random
import unittest

from firerest.benches import Bench, Trial
from firerest.errors import NoPlace, SamePlace
from firerest.scenes import Scene, all_ready
from firerest.webs import Web
from tests.support import FAR, NO_PLACES, Case, counts_of, pictures_of, random_scene, random_scenes, ring_lines
from tests.support import ring_scene, shown, thread_lines

NOTHING = Scene(Web(0), [])


class BenchCase(Case):

    def stands(self, bench, scene, beats, counts):
        """Check the three fields of a bench."""
        self.assertIs(type(bench.scene), Scene)
        self.same((bench.scene, bench.beats, bench.counts), (scene, beats, tuple(counts)))


class BenchTest(BenchCase):

    def test_new_benches(self):
        for scene in random_scenes(530, 20, 60) + [NOTHING]:
            bench = Bench(scene)
            self.stands(bench, scene, 0, (0,) * scene.web.size)
            self.assertIs(bench.scene, scene)
            self.stands(Bench(scene=scene), scene, 0, (0,) * scene.web.size)

    def test_run_and_jump(self):
        chance = random.Random(531)
        for scene in random_scenes(532, 60, 20) + [ring_scene(3, 4, 5)]:
            one, two = Bench(scene), Bench(scene)
            done = 0
            for _ in range(4):
                beats = chance.choice((0, 1, 2, 30, 300))
                self.assertIsNone(one.run(beats))
                self.assertIsNone(two.jump(beats=beats))
                done += beats
                pictures = pictures_of(scene, done)
                self.stands(one, Scene(scene.web, pictures[-1]), done, counts_of(pictures))
                self.stands(two, one.scene, one.beats, one.counts)
        bench = Bench(ring_scene(4))
        self.assertIsNone(bench.run(beats=3000))
        self.stands(bench, ring_scene(4), 3000, (750,) * 4)

    def test_jumps_of_forty_digits(self):
        bench = Bench(ring_scene(4, 5))
        bench.run(7)
        bench.jump(20 * 10 ** 38 - 7)
        self.stands(bench, ring_scene(4, 5), 2 * 10 ** 39, (5 * 10 ** 38,) * 4 + (4 * 10 ** 38,) * 5)
        bench.jump(FAR)
        bench.jump(FAR)
        self.same(bench.beats, 2 * 10 ** 39 + 2 * FAR)
        self.same(bench.counts[8], 4 * 10 ** 38 + 4 * 10 ** 39)
        bench.poke([2])
        bench.cut(0)
        bench.jump(FAR)
        self.same(bench.beats, 2 * 10 ** 39 + 3 * FAR + 1)
        other = Bench(NOTHING)
        other.jump(FAR)
        other.run(3)
        self.stands(other, NOTHING, FAR + 3, ())

    def test_poke(self):
        chance = random.Random(533)
        for scene in random_scenes(534, 80, 9):
            size = scene.web.size
            bench, pokes = Bench(scene), []
            for beat in range(6):
                places = [chance.randrange(size) for _ in range(chance.choice((0, 1, 1, 3, 5)) if size else 0)]
                places += places[:2]
                passed = list(places) if chance.random() < 0.5 else tuple(places)
                self.assertIsNone(bench.poke(passed))
                self.assertEqual(list(passed), places)
                pokes += [(beat, place) for place in places]
                pictures = pictures_of(scene, beat + 1, pokes)
                self.stands(bench, Scene(scene.web, pictures[-1]), beat + 1, counts_of(pictures))
        bench = Bench(all_ready(Web(2)))
        bench.poke(places=())
        self.stands(bench, all_ready(Web(2)), 1, (0, 0))
        bench.poke([1, 1, 1])
        self.stands(bench, Scene(Web(2), [0, 1]), 2, (0, 1))
        bench.poke((1,))
        self.stands(bench, Scene(Web(2), [0, 2]), 3, (0, 1))

    def test_cut_tie_and_untie(self):
        scene = Scene(Web(4, ring_lines(4)), [1, 2, 0, 1])
        bench = Bench(scene)
        bench.run(1)
        self.assertEqual((bench.scene.picture, bench.counts), ((2, 0, 1, 2), (0, 0, 1, 0)))
        self.assertIsNone(bench.cut(place=2))
        self.stands(bench, Scene(Web(4, [(0, 1), (0, 3)]), [2, 0, 0, 2]), 1, (0, 0, 1, 0))
        self.assertIsNone(bench.cut(2))
        self.assertIsNone(bench.tie(a=3, b=1))
        self.stands(bench, Scene(Web(4, [(0, 1), (0, 3), (1, 3)]), [2, 0, 0, 2]), 1, (0, 0, 1, 0))
        self.assertIsNone(bench.tie(1, 3))
        self.stands(bench, Scene(Web(4, [(0, 1), (0, 3), (1, 3)]), [2, 0, 0, 2]), 1, (0, 0, 1, 0))
        self.assertIsNone(bench.untie(a=3, b=0))
        self.stands(bench, Scene(Web(4, [(0, 1), (1, 3)]), [2, 0, 0, 2]), 1, (0, 0, 1, 0))
        self.assertIsNone(bench.untie(0, 3))
        self.assertIsNone(bench.untie(2, 3))
        self.stands(bench, Scene(Web(4, [(0, 1), (1, 3)]), [2, 0, 0, 2]), 1, (0, 0, 1, 0))
        self.same(scene, Scene(Web(4, ring_lines(4)), [1, 2, 0, 1]))

    def test_everything_at_random(self):
        chance = random.Random(535)
        for _ in range(60):
            size = chance.randint(2, 8)
            scene = random_scene(chance, size, size)
            bench = Bench(scene)
            lines, picture, beats, counts = set(scene.web.lines), scene.picture, 0, (0,) * size
            for _ in range(12):
                a, b = chance.sample(range(size), 2)
                way = chance.randrange(6)
                if way < 2:
                    many = chance.randint(0, 5)
                    (bench.run if way else bench.jump)(many)
                    pictures = pictures_of(Scene(Web(size, sorted(lines)), picture), many)
                elif way == 2:
                    many = 1
                    bench.poke([a, b])
                    pictures = pictures_of(Scene(Web(size, sorted(lines)), picture), 1, [(0, a), (0, b)])
                else:
                    many, pictures = 0, [picture]
                    if way == 3:
                        bench.cut(a)
                        lines = {line for line in lines if a not in line}
                        pictures = [picture[:a] + (0,) + picture[a + 1:]]
                    elif way == 4:
                        bench.tie(a, b)
                        lines = lines | {(min(a, b), max(a, b))}
                    else:
                        bench.untie(a, b)
                        lines = lines - {(min(a, b), max(a, b))}
                picture, beats = pictures[-1], beats + many
                counts = tuple(old + new for old, new in zip(counts, counts_of(pictures)))
                self.stands(bench, Scene(Web(size, sorted(lines)), picture), beats, counts)

    def test_errors_change_nothing(self):
        scene = ring_scene(4)
        bench = Bench(scene)
        bench.run(2)
        bench.tie(0, 2)
        before = shown(bench)
        for place in NO_PLACES + (4,):
            for method, arguments in ((bench.cut, (place,)), (bench.tie, (place, 0)), (bench.tie, (0, place)),
                                      (bench.tie, (place, 9)), (bench.tie, (place, place)), (bench.untie, (place, 0)),
                                      (bench.untie, (1, place)), (bench.untie, (place, place)), (bench.untie, (place, 9)),
                                      (bench.poke, ((place,),)), (bench.poke, ((0, place, 77),)),
                                      (bench.poke, ((3, 3, place),))):
                self.fails("NoPlace", (place,), method, *arguments)
                self.assertEqual(shown(bench), before)
        for place in range(4):
            for method in (bench.tie, bench.untie):
                self.fails("SamePlace", (place,), method, place, place)
                self.assertEqual(shown(bench), before)
        other = Bench(NOTHING)
        for method, arguments in ((other.cut, (0,)), (other.tie, (0, 0)), (other.untie, (0, 0)), (other.poke, ([0],))):
            self.fails("NoPlace", (0,), method, *arguments)
        other.poke([])
        self.stands(other, NOTHING, 1, ())

    def test_what_a_bench_had_before_stays(self):
        scene = ring_scene(5)
        one, two = Bench(scene), Bench(scene)
        held, wanted = [], []
        for change in (lambda bench: bench.run(3), lambda bench: bench.poke([0, 3]), lambda bench: bench.cut(1),
                       lambda bench: bench.tie(1, 3), lambda bench: bench.jump(FAR), lambda bench: bench.untie(3, 4)):
            held.append((one.scene, one.counts))
            wanted.append(shown(held[-1]))
            change(one)
            self.assertEqual([shown(pair) for pair in held], wanted)
            self.stands(two, ring_scene(5), 0, (0,) * 5)
        self.same(scene, ring_scene(5))


class TrialTest(BenchCase):

    def test_fields_come_back(self):
        bench = Bench(ring_scene(4))
        bench.run(3)
        held = (bench.scene, bench.beats, bench.counts)
        trial = Trial(bench)
        with trial:
            self.stands(bench, *held)
            bench.poke([1])
            bench.cut(2)
            bench.jump(FAR)
            self.same(bench.beats, FAR + 4)
        self.stands(bench, *held)
        self.assertIs(bench.scene, held[0])
        with Trial(bench=bench):
            pass
        self.stands(bench, *held)
        with Trial(bench):
            bench.tie(0, 2)
        bench.run(1)
        self.same(bench.beats, 4)

    def test_the_beginning_of_the_statement_counts(self):
        bench = Bench(ring_scene(4))
        trial = Trial(bench)
        bench.run(2)
        held = (bench.scene, bench.beats, bench.counts)
        with trial:
            bench.run(5)
        self.stands(bench, *held)
        self.same(bench.beats, 2)

    def test_errors_are_raised_on(self):
        bench = Bench(ring_scene(4))
        bench.run(1)
        held = (bench.scene, bench.beats, bench.counts)
        for error, wrong in ((NoPlace, lambda: bench.cut(9)), (SamePlace, lambda: bench.tie(2, 2)),
                             (KeyError, lambda: {}[0]), (ZeroDivisionError, lambda: 1 // 0)):
            with self.assertRaises(error):
                with Trial(bench):
                    bench.run(3)
                    bench.untie(0, 1)
                    wrong()
            self.stands(bench, *held)

        def leave():
            with Trial(bench):
                bench.run(3)
                return bench.beats

        self.same(leave(), 4)
        self.stands(bench, *held)
        for _ in range(3):
            with Trial(bench):
                bench.run(1)
                continue
        self.stands(bench, *held)

    def test_trials_in_trials(self):
        bench = Bench(Scene(Web(3, thread_lines(3)), [1, 0, 0]))
        with Trial(bench):
            bench.run(1)
            middle = (bench.scene, bench.beats, bench.counts)
            with Trial(bench):
                bench.cut(1)
                bench.run(2)
                with Trial(bench):
                    bench.poke([0])
                self.same(bench.beats, 3)
            self.stands(bench, *middle)
            with self.assertRaises(NoPlace):
                with Trial(bench):
                    bench.run(4)
                    with Trial(bench):
                        bench.poke([3])
            self.stands(bench, *middle)
            bench.run(1)
            self.same(bench.counts, (0, 1, 1))
        self.stands(bench, Scene(Web(3, thread_lines(3)), [1, 0, 0]), 0, (0, 0, 0))

    def test_two_benches(self):
        scene = ring_scene(4)
        one, two = Bench(scene), Bench(scene)
        with Trial(one):
            one.run(2)
            two.run(3)
            with Trial(two):
                two.run(1)
                one.poke([0])
            self.same((one.beats, two.beats), (3, 3))
        self.same((one.beats, two.beats), (0, 3))


if __name__ == "__main__":
    unittest.main()
