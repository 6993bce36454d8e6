"""Scenes and the functions that make them: points 13 and 14."""

import itertools
import random
import unittest

from firerest.scenes import Scene, all_ready, beside, mirror, part, picture_text
from firerest.scenes import scene_of_text, taken_out, turned
from firerest.webs import Web
from tests.support import FAR, NO_PLACES, OTHERS, Case, random_scene, random_scenes, ring_lines
from tests.support import thread_lines

NOTHING = Scene(Web(0), [])


class SceneTest(Case):

    def test_fields(self):
        web = Web(3, [(0, 1), (1, 2)])
        for picture in itertools.product(range(3), repeat=3):
            scene = self.ask(Scene, web, picture)
            self.equal(scene.web, web)
            self.same(scene.picture, picture)
        self.same(NOTHING.picture, ())
        self.same(NOTHING.web.size, 0)
        for scene in random_scenes(30, 30, 60):
            again = self.ask(Scene, scene.web, scene.picture)
            self.same(again.web.lines, scene.web.lines)
            self.same(again.picture, scene.picture)
        self.equal(Scene(picture=(1, 2), web=Web(2)), Scene(Web(2), [1, 2]))

    def test_later_changes(self):
        picture = [0, 1, 2]
        scene = Scene(Web(3), picture)
        picture[0] = 2
        picture.append(1)
        self.same(scene.picture, (0, 1, 2))

    def test_too_short_or_too_long(self):
        for size in (0, 1, 2, 5, 60):
            for many in range(size + 4):
                if many != size:
                    self.fails("BadPicture", (min(many, size),), Scene, Web(size), [2] * many)
        self.fails("BadPicture", (60,), Scene, Web(60), [0] * 61)
        self.fails("BadPicture", (59,), Scene, Web(60), [0] * 59)
        self.fails("BadPicture", (0,), Scene, Web(1), ())
        self.fails("BadPicture", (0,), Scene, Web(0), (0,))

    def test_items_that_are_no_states(self):
        for wrong in (3, 4, -1, -2, -3, 10 ** 30, -10 ** 30, FAR, 3 * FAR, 2 ** 64 + 1):
            for index in range(4):
                picture = [1, 0, 2, 1]
                picture[index] = wrong
                self.fails("BadPicture", (index,), Scene, Web(4), picture)
                self.fails("BadPicture", (index,), Scene, Web(4), picture[:index + 1] + [wrong] * 9)
                self.fails("BadPicture", (index,), Scene, Web(4), picture[:index + 1])
                self.fails("BadPicture", (index,), Scene, Web(60), picture)

    def test_several_faults(self):
        self.fails("BadPicture", (1,), Scene, Web(2), [0, 3, 1])
        self.fails("BadPicture", (2,), Scene, Web(2), [0, 2, 7])
        self.fails("BadPicture", (2,), Scene, Web(2), [0, 2, 1, 7])
        self.fails("BadPicture", (2,), Scene, Web(5), [0, 2])
        self.fails("BadPicture", (0,), Scene, Web(5), [-1, 2])
        self.fails("BadPicture", (3,), Scene, Web(8), [0, 2, 1, 5, 0, -1])

    def test_equality(self):
        web = Web(3, [(0, 1)])
        scene = Scene(web, [0, 1, 2])
        self.equal(scene, scene)
        self.equal(scene, Scene(Web(3, [[1, 0], [0, 1]]), (0, 1, 2)))
        self.equal(NOTHING, Scene(Web(0), ()))
        for picture in itertools.product(range(3), repeat=3):
            self.assertIs(scene == Scene(web, picture), picture == (0, 1, 2))
        for other in (Web(3), Web(3, [(0, 2)]), Web(3, [(0, 1), (1, 2)])):
            self.unequal(scene, Scene(other, [0, 1, 2]))
        self.unequal(scene, NOTHING)
        self.unequal(Scene(Web(2), [0, 0]), Scene(Web(3), [0, 0, 0]))

    def test_equality_with_other_values(self):
        class Alike:
            web = Web(0)
            picture = ()

        for other in OTHERS + (Alike(), Web(0), (Web(0), ()), "."):
            self.unequal(NOTHING, other)
            self.unequal(Scene(Web(1), [0]), other)


class MadeScenesTest(Case):

    def test_all_ready(self):
        for size in (0, 1, 3, 60):
            web = Web(size, thread_lines(size))
            scene = all_ready(web)
            self.equal(scene, Scene(web, [0] * size))
            self.same(scene.picture, (0,) * size)
        self.equal(all_ready(web=Web(2)), Scene(Web(2), [0, 0]))

    def test_mirror(self):
        for scene in random_scenes(31, 40, 60) + [NOTHING]:
            kept = scene.picture
            found = mirror(scene)
            self.equal(found.web, scene.web)
            self.same(found.picture, tuple({0: 0, 1: 2, 2: 1}[state] for state in kept))
            self.equal(mirror(scene=found), scene)
            self.same(scene.picture, kept)

    def test_turned(self):
        times = list(range(-7, 8)) + [FAR, FAR + 1, FAR + 2, -FAR, -FAR - 1, -FAR - 2,
                                      10 ** 30 + 1, -10 ** 30 - 1, 3 * 10 ** 35]
        for scene in random_scenes(32, 20, 60) + [NOTHING, Scene(Web(3), [0, 1, 2])]:
            for many in times:
                found = turned(scene, many)
                self.equal(found.web, scene.web)
                wanted = []
                for state in scene.picture:
                    for _ in range(many - many // 3 * 3):
                        state = {0: 1, 1: 2, 2: 0}[state]
                    wanted.append(state)
                self.same(found.picture, tuple(wanted))
        self.same(turned(times=-1, scene=Scene(Web(3), [0, 1, 2])).picture, (2, 0, 1))

    def test_beside(self):
        chance = random.Random(33)
        for _ in range(40):
            one = random_scene(chance, chance.randint(0, 30), 30)
            two = random_scene(chance, chance.randint(0, 30), 30)
            found = beside(one, two)
            self.equal(found.web, one.web + two.web)
            self.same(found.picture, one.picture + two.picture)
            self.equal(beside(two=one, one=one), Scene(one.web + one.web, one.picture * 2))
            self.equal(beside(one, NOTHING), one)
            self.equal(beside(NOTHING, two), two)
        self.equal(beside(NOTHING, NOTHING), NOTHING)


class PartsTest(Case):

    def check_taken_out(self, scene, places):
        """Check `taken_out` by the words of the point."""
        found = self.ask(taken_out, scene, places)
        self.same(found.web.size, scene.web.size)
        self.same(found.web.lines, tuple(line for line in scene.web.lines
                                         if not set(line) & set(places)))
        self.same(found.picture, tuple(0 if place in places else state
                                       for place, state in enumerate(scene.picture)))

    def check_part(self, scene, places):
        """Check `part` by the words of the point."""
        found = self.ask(part, scene, places)
        kept = sorted(set(places))
        self.same(found.web.size, len(kept))
        self.same(found.picture, tuple(scene.picture[place] for place in kept))
        pairs = itertools.combinations(range(len(kept)), 2)
        self.same(found.web.lines, tuple((a, b) for a, b in pairs
                                         if (kept[a], kept[b]) in scene.web.lines))

    def test_random_places(self):
        chance = random.Random(34)
        for scene in random_scenes(35, 60, 60):
            numbers = list(range(scene.web.size))
            kept = (scene.web.lines, scene.picture)
            for many in (0, 1, 3, scene.web.size // 2, scene.web.size + 3):
                places = [chance.choice(numbers) for _ in range(many if numbers else 0)]
                for check in (self.check_taken_out, self.check_part):
                    check(scene, places)
                    check(scene, places[::-1] + places)
            for check in (self.check_taken_out, self.check_part):
                check(scene, numbers)
                check(scene, numbers[::-1])
            self.equal(part(scene, numbers[::-1]), scene)
            self.equal(taken_out(scene, ()), scene)
            self.equal(part(scene, ()), NOTHING)
            self.equal(taken_out(scene, numbers), all_ready(Web(scene.web.size)))
            self.same((scene.web.lines, scene.picture), kept)

    def test_all_small_places(self):
        scene = Scene(Web(4, ring_lines(4)), [1, 2, 0, 1])
        for many in range(4):
            for places in itertools.product(range(4), repeat=many):
                self.check_taken_out(scene, places)
                self.check_part(scene, places)

    def test_names(self):
        scene = Scene(Web(3, [(0, 1), (1, 2)]), [2, 1, 1])
        self.equal(part(places=[2, 0], scene=scene), Scene(Web(2), [2, 1]))
        self.equal(taken_out(places=[2], scene=scene), Scene(Web(3, [(0, 1)]), [2, 1, 0]))

    def test_no_place(self):
        scene = Scene(Web(3, [(0, 1), (1, 2)]), [1, 2, 1])
        for function in (taken_out, part):
            for place in NO_PLACES + (3, 4, -3, FAR):
                self.fails("NoPlace", (place,), function, scene, [place])
                self.fails("NoPlace", (place,), function, scene, [0, 2, 2, place, 1])
                self.fails("NoPlace", (place,), function, scene, [1, place, -8, 9, place])
            self.fails("NoPlace", (0,), function, NOTHING, [0])
            self.fails("NoPlace", (5,), function, scene, [2, 5, -1])
            self.fails("NoPlace", (-1,), function, scene, [2, -1, 5])


class TextsTest(Case):

    def test_picture_text(self):
        for scene in random_scenes(36, 40, 60) + [NOTHING]:
            text = picture_text(scene)
            self.same(text, "".join({0: ".", 1: "*", 2: "o"}[state] for state in scene.picture))
            self.equal(scene_of_text(scene.web, text), scene)
        self.same(picture_text(scene=NOTHING), "")

    def test_scene_of_text(self):
        web = Web(3, [(0, 2)])
        for signs in itertools.product(".*o", repeat=3):
            scene = scene_of_text(web, "".join(signs))
            self.equal(scene.web, web)
            self.same(scene.picture, tuple(".*o".index(sign) for sign in signs))
        self.equal(scene_of_text(text="", web=Web(0)), NOTHING)

    def test_too_short_or_too_long(self):
        for size in (0, 1, 4, 60):
            for many in range(size + 4):
                if many != size:
                    index = min(many, size)
                    self.fails("BadPicture", (index,), scene_of_text, Web(size), "*" * many)

    def test_other_characters(self):
        for wrong in "aOx0 12\n,:-#":
            for index in range(4):
                text = "*.o."[:index] + wrong + "*.o."[index + 1:]
                self.fails("BadPicture", (index,), scene_of_text, Web(4), text)
                self.fails("BadPicture", (index,), scene_of_text, Web(4), text[:index + 1])
                self.fails("BadPicture", (index,), scene_of_text, Web(9), text)
                self.fails("BadPicture", (index,), scene_of_text, Web(4), text[:index + 1] * 5)
        self.fails("BadPicture", (4,), scene_of_text, Web(4), "*.o.\n")
        self.fails("BadPicture", (4,), scene_of_text, Web(4), "*.o. ")
        self.fails("BadPicture", (0,), scene_of_text, Web(4), " *.o.")
        self.fails("BadPicture", (0,), scene_of_text, Web(0), "\n")
        self.fails("BadPicture", (2,), scene_of_text, Web(4), "..x")
        self.fails("BadPicture", (1,), scene_of_text, Web(4), ".O.o.x")


if __name__ == "__main__":
    unittest.main()
