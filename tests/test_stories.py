"""Stories: points 53 to 56."""

import itertools
import random
import unittest

from firerest.books import Book
from firerest.scenes import Scene, all_ready
from firerest.stories import is_story, least_turns, most_turns, must, story, story_with
from firerest.watches import Watch
from firerest.webs import Web
from tests.support import FAR, NO_PLACES, Case, pictures_of, random_pokes, random_records, random_scene
from tests.support import records_of, ring_lines, ring_scene, runs_with, shows_records, subsets, thread_lines
from tests.support import turns_of

NOTHING = Scene(Web(0), [])


def turns_at(pictures):
    """Return, for each beat, the turns of each place up to it."""
    return [turns_of(pictures[:beat + 1]) for beat in range(len(pictures))]


def is_told(watch, pokes):
    """Tell whether pokes are a story, by the words of point 53."""
    if any(beat >= watch.beats or place not in watch.suspects for beat, place in pokes):
        return False
    return shows_records(pictures_of(watch.scene, watch.beats, pokes), watch.records)


class StoryCase(Case):

    def check(self, scene, beats, records, suspects):
        """Compare all answers about a watch with all its books; return the stories."""
        watch = Watch(scene, beats, records, suspects)
        stories = [(pokes, pictures) for pokes, pictures in runs_with(scene, beats, sorted(set(suspects)))
                   if shows_records(pictures, records)]
        if not stories:
            self.check_none(watch)
            return stories
        found = story(watch)
        self.assertIs(type(found), Book)
        self.assertIs(is_told(watch, found.pokes), True)
        self.assertIs(is_story(watch, found), True)
        tables = [turns_at(pictures) for _, pictures in stories]
        poked = [{place for _, place in pokes} for pokes, _ in stories]
        self.same(must(watch), tuple(place for place in watch.suspects if all(place in row for row in poked)))
        most = [tuple(max(table[beat][place] for table in tables) for place in range(scene.web.size))
                for beat in range(beats + 1)]
        self.assertIn(most, tables)
        for beat, place in itertools.product(range(beats + 1), range(scene.web.size)):
            self.same(most_turns(watch, place, beat), most[beat][place])
            self.check_many(watch, place, beat, sorted({table[beat][place] for table in tables}))
        return stories

    def check_none(self, watch):
        """Check the answers about a watch without a story."""
        self.assertIsNone(story(watch))
        self.assertIsNone(must(watch))
        size = watch.scene.web.size
        for beat, place in itertools.product(range(watch.beats + 1), range(size)):
            self.assertIsNone(most_turns(watch, place, beat))
            if len(watch.suspects) == size:
                self.assertIsNone(least_turns(watch, place, beat))
                for many in (-1, 0, 1, 2, FAR):
                    self.assertIsNone(story_with(watch, place, beat, many))
            else:
                self.fails("NotAllSuspects", (), least_turns, watch, place, beat)
                self.fails("NotAllSuspects", (), story_with, watch, place, beat, 0)

    def check_many(self, watch, place, beat, numbers):
        """Check what is told about the numbers of turns that stories have."""
        if len(watch.suspects) < watch.scene.web.size:
            self.fails("NotAllSuspects", (), least_turns, watch, place, beat)
            self.fails("NotAllSuspects", (), story_with, watch, place, beat, numbers[0])
            return
        self.assertEqual(numbers, list(range(numbers[0], numbers[-1] + 1)))
        self.same(least_turns(watch, place, beat), numbers[0])
        for many in numbers:
            found = story_with(watch, place, beat, many)
            self.assertIs(is_told(watch, found.pokes), True)
            pictures = pictures_of(watch.scene, beat, found.pokes)
            self.assertEqual(turns_of(pictures)[place], many)
        for many in (numbers[0] - 1, numbers[-1] + 1, -1, -FAR, FAR):
            self.assertIsNone(story_with(watch, place, beat, many))


class StoryTest(StoryCase):

    def test_small_scenes(self):
        chance = random.Random(400)
        told = []
        for _ in range(500):
            size = chance.choice((1, 2, 2, 3, 3, 4))
            scene = random_scene(chance, size, chance.choice((size - 1, size, 6)))
            beats = chance.choice({1: (0, 3, 6), 2: (1, 3, 4), 3: (2, 3), 4: (1, 2)}[size])
            some = chance.choice((range(size), range(size), subsets(range(size))[chance.randrange(2 ** size)]))
            suspects = list(some)
            records = random_records(chance, scene, beats, suspects)
            told.append(len(self.check(scene, beats, records, suspects[::-1] + suspects)))
        self.assertGreater(told.count(0), 25)
        self.assertGreater(len([many for many in told if many > 1]), 200)

    def test_one_suspect_and_more_beats(self):
        chance = random.Random(401)
        told = []
        for _ in range(150):
            size = chance.choice((2, 3, 4, 6))
            scene = random_scene(chance, size, size + 1)
            suspects = chance.sample(range(size), chance.choice((1, 1, 0)))
            told.append(len(self.check(scene, 7, random_records(chance, scene, 7, suspects), suspects)))
        self.assertGreater(told.count(0), 20)

    def test_every_record_of_a_pair(self):
        courses = {}
        for state in range(3):
            rows = [(state,)]
            for _ in range(3):
                rows = [row + (later,) for row in rows for later in {0: (0, 1), 1: (2,), 2: (0,)}[row[-1]]]
            courses[state] = rows
        for picture in itertools.product(range(3), repeat=2):
            scene = Scene(Web(2, [(0, 1)]), picture)
            for first in courses[picture[0]]:
                for suspects in ((), (0,), (1,), (0, 1)):
                    self.check(scene, 3, [(0, first)], suspects)
                for second in courses[picture[1]]:
                    for suspects in ((0,), (1,), (0, 1)):
                        self.check(scene, 3, [(0, first), (1, second)], suspects)

    def test_records_of_all_places_and_none(self):
        chance = random.Random(402)
        for _ in range(40):
            scene = random_scene(chance, 3, 3)
            pokes = random_pokes(chance, 3, 2, 0)
            records = records_of(scene, 3, pokes, (2, 0, 1))
            self.assertTrue(self.check(scene, 3, records, range(3)))
            self.check(scene, 3, records, (0, 1))
            self.assertTrue(self.check(scene, 3, [], (0, 2)))
            self.assertTrue(self.check(scene, 3, [], ()))

    def test_nothing(self):
        for beats in (0, 1, 60):
            watch = Watch(NOTHING, beats, [], [])
            self.same(story(watch), Book())
            self.same(must(watch), ())
            self.assertIs(is_story(watch, Book()), True)
            self.assertIs(is_story(watch, Book([(0, 0)])), False)
            for function in (most_turns, least_turns):
                self.fails("NoPlace", (0,), function, watch, 0, 0)
            self.fails("NoPlace", (0,), story_with, watch, 0, 0, 0)
        scene = ring_scene(3)
        watch = Watch(scene, 0, [(0, [1])], [1])
        self.same(story(watch), Book())
        self.same(must(watch), ())
        self.same(most_turns(watch, 2, 0), 0)
        self.assertIs(is_story(watch, Book([(0, 1)])), False)
        watch = Watch(scene, 0, [], [0, 1, 2])
        self.same(least_turns(watch, 1, 0), 0)
        self.same(story_with(watch, 1, 0, 0), Book())
        self.assertIsNone(story_with(watch, 1, 0, 1))

    def test_which_books_are_stories(self):
        scene = all_ready(Web(4, thread_lines(4)))
        watch = Watch(scene, 4, [(1, [0, 0, 1, 2, 0])], [0, 2])
        books = [pokes for pokes, _ in runs_with(scene, 4, (0, 2))]
        told = [pokes for pokes in books if is_told(watch, pokes)]
        self.assertTrue(0 < len(told) < len(books))
        for pokes in books:
            self.assertIs(is_story(watch, Book(pokes)), pokes in told)
        for pokes in told:
            for more in ((4, 0), (4, 2), (FAR, 0), (5, FAR), (0, FAR), (3, 1), (2, 3), (0, 4), (3, 4)):
                # Some of these pokes would have no effect; still they are no pokes of suspects in time.
                self.assertIs(is_story(watch, Book(pokes + (more,))), False)
        for pokes in told:
            for index in range(len(pokes)):
                less = pokes[:index] + pokes[index + 1:]
                self.assertIs(is_story(watch, Book(less)), less in told)

    def test_random_books(self):
        chance = random.Random(403)
        answers = []
        for _ in range(300):
            size, beats = chance.randint(1, 6), chance.randint(0, 6)
            scene = random_scene(chance, size, size)
            suspects = chance.sample(range(size), chance.randint(0, size))
            pokes = [(chance.randrange(beats), chance.choice(suspects))
                     for _ in range(4) if beats and suspects]
            records = records_of(scene, beats, pokes, chance.sample(range(size), chance.randint(0, size)))
            watch = Watch(scene, beats, records, suspects)
            for tried in (pokes, pokes[1:], pokes + random_pokes(chance, 1, beats, size), []):
                answer = is_story(watch, Book(tried))
                self.assertIs(answer, is_told(watch, tried))
                answers.append(answer)
        self.assertGreater(answers.count(False), 200)
        self.assertGreater(answers.count(True), 400)


class GreatTest(Case):

    def test_sixty_places_and_beats(self):
        chance = random.Random(404)
        for lines in (thread_lines(60), ring_lines(60), list(itertools.combinations(range(60), 2)), None):
            web = random_scene(chance, 60, 80).web if lines is None else Web(60, lines)
            for picture in ([0] * 60, [chance.randrange(3) for _ in range(60)]):
                scene = Scene(web, picture)
                for suspects in (range(60), chance.sample(range(60), 9), [59]):
                    pokes = [(chance.randrange(60), chance.choice(suspects)) for _ in range(30)]
                    records = records_of(scene, 60, pokes, chance.sample(range(60), 7))
                    self.check(Watch(scene, 60, records, suspects), pokes, chance)

    def check(self, watch, pokes, chance):
        """Check a watch of sixty places with a story that is known."""
        self.assertIs(is_told(watch, story(watch).pokes), True)
        table = turns_at(pictures_of(watch.scene, 60, pokes))
        recorded = dict(watch.records)
        for beat in (0, 1, 30, 60):
            place = chance.randrange(60)
            most = most_turns(watch, place, beat)
            self.assertGreaterEqual(most, table[beat][place])
            if place in recorded:
                self.assertEqual(most, table[beat][place])
            if len(watch.suspects) == 60:
                self.check_many(watch, place, beat, most, table[beat][place], chance)
        needed = must(watch)
        self.assertTrue(set(needed) <= {place for _, place in pokes})
        self.assertTrue(set(needed) <= {place for _, place in story(watch).pokes})

    def check_many(self, watch, place, beat, most, known, chance):
        """Check the numbers of turns of a place, all places being suspects."""
        least = least_turns(watch, place, beat)
        self.assertTrue(0 <= least <= known <= most)
        for many in sorted({least, chance.randint(least, most), most}):
            found = story_with(watch, place, beat, many)
            self.assertIs(is_told(watch, found.pokes), True)
            self.assertEqual(turns_of(pictures_of(watch.scene, beat, found.pokes))[place], many)
        self.assertIsNone(story_with(watch, place, beat, least - 1))
        self.assertIsNone(story_with(watch, place, beat, most + 1))

    def test_a_wave_along_a_thread(self):
        # What is seen at the far end must have begun at the only suspect, in time.
        scene = all_ready(Web(60, thread_lines(60)))
        for beat in (60, 61):
            states = [0] * beat + [1] if beat == 60 else [0] * 61
            watch = Watch(scene, 60, [(59, states)], [0])
            self.same(must(watch), (0,) if beat == 60 else ())
            self.same(most_turns(watch, 0, 60), 60 if beat == 60 else 59)
        watch = Watch(scene, 59, [(59, [0] * 59 + [1])], [0])
        self.assertIsNone(story(watch))
        self.assertIsNone(must(watch))


class WrongTest(Case):

    def test_no_place_first(self):
        scene = ring_scene(4)
        watches = [Watch(scene, 2, [], suspects) for suspects in ((), (0, 1, 2, 3), (2,))]
        # A place on a wave cannot stand still: these have no story.
        watches += [Watch(scene, 2, [(2, [0, 0, 0]), (0, [1, 2, 0])], suspects) for suspects in ((), (0, 1, 2, 3))]
        watches += [Watch(scene, 2, [(3, [0, 0, 0])], suspects) for suspects in ((0, 1), (0, 1, 2, 3))]
        for watch in watches:
            for place in NO_PLACES + (4,):
                for function in (most_turns, least_turns):
                    self.fails("NoPlace", (place,), function, watch, place, 1)
                self.fails("NoPlace", (place,), story_with, watch, place, 1, 1)
        self.assertIsNone(story(watches[-1]))

    def test_not_all_suspects(self):
        scene = ring_scene(4)
        for records in ([], [(3, [0, 0, 0])]):
            for suspects in ((), (0,), (0, 1, 2), (0, 0, 1, 3)):
                watch = Watch(scene, 2, records, suspects)
                for place, beat in itertools.product(range(4), range(3)):
                    self.fails("NotAllSuspects", (), least_turns, watch, place, beat)
                    for many in (-1, 0, 1, 2, FAR):
                        self.fails("NotAllSuspects", (), story_with, watch, place, beat, many)

    def test_names_and_asking_again(self):
        scene = all_ready(Web(3, thread_lines(3)))
        watch = Watch(scene, 3, [(0, [0, 0, 0, 1])], [0, 1, 2])
        other = Watch(scene, 1, [(0, [0, 1])], [2])
        first = story(watch=watch)
        self.assertIsNone(story(watch=other))
        self.same(story(watch), first)
        self.assertIs(is_story(book=first, watch=watch), True)
        self.same(most_turns(beat=3, watch=watch, place=2), 3)
        self.same(least_turns(place=2, beat=3, watch=watch), 0)
        self.assertIs(is_told(watch, story_with(many=1, beat=3, place=2, watch=watch).pokes), True)
        self.same(must(watch=watch), ())
        self.assertIsNone(must(other))
        self.same(must(watch), ())


if __name__ == "__main__":
    unittest.main()
