"""Lead tables and runs over far beats: points 26, 27 and 28."""

import random
import unittest

from firerest.books import Book
from firerest.far import far_counts, far_run, far_turns, lead_table
from firerest.runs import counts, run, turns
from firerest.scenes import Scene, all_ready, beside, scene_of_text
from firerest.tables import greatest_gains, power
from firerest.webs import Web
from tests.support import FAR, Case, counts_of, lead_of, near_of, next_picture, pieces_of
from tests.support import random_pokes, random_scene, random_scenes, ring_lines, ring_scene
from tests.support import thread_lines

NOTHING = Scene(Web(0), [])
FAR_BEATS = (FAR, FAR - 1, 10 ** 39 + 12345, 7 * 10 ** 37 + 1, 10 ** 12)


class LeadTableTest(Case):

    def test_entries(self):
        for scene in random_scenes(90, 60, 25) + [NOTHING, ring_scene(60)]:
            near = near_of(scene.web)
            rows = []
            for a in range(scene.web.size):
                row = [None] * scene.web.size
                for b in near[a]:
                    row[b] = lead_of(scene, a, b)
                row[a] = 0
                rows.append(tuple(row))
            self.same(lead_table(scene).rows, tuple(rows))
            self.same(lead_table(scene=scene).size, scene.web.size)

    def greatest_sums(self, scene, start, beats):
        """Return the greatest lead sums of walks with `beats` steps or fewer."""
        near = near_of(scene.web)
        best = {start: 0}
        last = {start: 0}
        for _ in range(beats):
            fresh = {}
            for place, total in last.items():
                for other in near[place]:
                    more = total + lead_of(scene, place, other)
                    fresh[other] = max(more, fresh.get(other, more))
            last = fresh
            for place, total in last.items():
                best[place] = max(total, best.get(place, total))
        return tuple(best.get(place) for place in range(scene.web.size))

    def test_powers_tell_greatest_sums(self):
        for scene in random_scenes(91, 25, 9) + [ring_scene(4, 3), NOTHING]:
            table = lead_table(scene)
            for beats in (0, 1, 2, 3, 5, 8, 13, 20):
                found = power(table, beats)
                for place in range(scene.web.size):
                    self.same(found.rows[place], self.greatest_sums(scene, place, beats))

    def test_greatest_gains_tell_firings(self):
        for scene in random_scenes(92, 25, 12) + [ring_scene(4, 3), NOTHING]:
            table = lead_table(scene)
            for beats in (0, 1, 2, 3, 5, 8, 13, 40, 200):
                self.same(greatest_gains(power(table, beats)), counts(scene, beats))
        for scene in random_scenes(93, 8, 8) + [ring_scene(4, 3), ring_scene(5)]:
            table = lead_table(scene)
            for beats in FAR_BEATS[:2]:
                self.same(greatest_gains(power(table, beats)), far_counts(scene, beats))


class Alone:
    """One piece that runs for itself, as far as a far beat; an oracle."""

    def __init__(self, scene, piece):
        self.near = near_of(scene.web)
        self.piece = piece
        self.states = {place: scene.picture[place] for place in piece}
        self.counts = {place: 0 for place in piece}

    def beat(self, poked=()):
        """Go one beat on."""
        later = {}
        for place in self.piece:
            state = self.states[place]
            if state == 0 and (place in poked or 1 in [self.states[x] for x in self.near[place]]):
                later[place] = 1
                self.counts[place] += 1
            else:
                later[place] = {0: 0, 1: 2, 2: 0}[state]
        self.states = later

    def leap(self, beats):
        """Go `beats` beats on, over whole rounds at once when the states come back."""
        seen = {}
        while beats > 0:
            key = tuple(self.states.values())
            if key in seen:
                before, counts_then = seen[key]
                rounds = beats // (before - beats)
                for place in self.piece:
                    self.counts[place] += rounds * (self.counts[place] - counts_then[place])
                for _ in range(beats - rounds * (before - beats)):
                    self.beat()
                return
            seen[key] = (beats, dict(self.counts))
            self.beat()
            beats -= 1


def far_answers(scene, beats, pokes=()):
    """Return picture and counts at a far beat, piece by piece."""
    picture, many = [None] * scene.web.size, [None] * scene.web.size
    for piece in pieces_of(scene.web):
        alone = Alone(scene, piece)
        now = 0
        poked = {}
        for beat, place in pokes:
            if beat < beats:
                poked.setdefault(beat, set()).add(place)
        for beat in sorted(poked):
            alone.leap(beat - now)
            alone.beat(poked[beat])
            now = beat + 1
        alone.leap(beats - now)
        for place in piece:
            picture[place], many[place] = alone.states[place], alone.counts[place]
    return tuple(picture), tuple(many)


def turns_told(scene, picture, many):
    """Return the turns that lead to a picture with so many firings on the way."""
    found = []
    for first, last, fires in zip(scene.picture, picture, many):
        state, changes, fired = first, 0, 0
        rounds = max(fires - 2, 0)
        while (state, fired) != (last, fires - rounds):
            state = (state + 1) % 3
            changes += 1
            fired += 1 if state == 1 else 0
        found.append(changes + 3 * rounds)
    return tuple(found)


class FarTest(Case):

    def check(self, scene, beats, pokes=()):
        """Check the three functions at a far beat."""
        kept = (scene.web.lines, scene.picture)
        book = Book(pokes)
        picture, many = far_answers(scene, beats, pokes)
        found = far_run(scene, beats, book)
        self.equal(found.web, scene.web)
        self.same(found.picture, picture)
        self.same(far_counts(scene, beats, book), many)
        self.same(far_turns(scene, beats, book), turns_told(scene, picture, many))
        self.same(far_run(scene, beats, book).picture, picture)
        self.same((scene.web.lines, scene.picture), kept)
        self.equal(book, Book(pokes))

    def check_near(self, scene, beats, book):
        """Check the three functions at a beat that `run` reaches, too."""
        self.equal(far_run(scene, beats, book), run(scene, beats, book))
        self.same(far_counts(scene, beats, book), counts(scene, beats, book))
        self.same(far_turns(scene, beats, book), turns(scene, beats, book))

    def test_small_beats(self):
        chance = random.Random(94)
        for scene in random_scenes(95, 60, 20):
            for beats in list(range(12)) + [40, 100]:
                self.check_near(scene, beats, None)
                pokes = random_pokes(chance, chance.randint(0, 12), beats + 3, scene.web.size)
                self.check_near(scene, beats, Book(pokes))
                self.check_near(scene, beats, Book(pokes + [(beats, 0), (FAR, 1), (FAR, FAR)]))
        for scene in random_scenes(96, 10, 60):
            for beats in (0, 1, 7, 300):
                pokes = random_pokes(chance, 30, beats, scene.web.size)
                self.check_near(scene, beats, Book(pokes))
        self.check_near(ring_scene(4, 7), 3000, Book([(1500, 2), (2999, 9), (3000, 1)]))

    def test_oracle(self):
        for scene in random_scenes(97, 20, 12):
            picture, many = far_answers(scene, 50, [(3, 0), (20, 1)])
            pictures = [scene.picture]
            for beat in range(50):
                poked = {3: [0], 20: [1]}.get(beat, [])
                pictures.append(next_picture(near_of(scene.web), pictures[-1], poked))
            self.same((picture, many), (pictures[-1], counts_of(pictures)))

    def test_no_book(self):
        for scene in random_scenes(98, 10, 15) + [NOTHING]:
            for beats in (0, 5, FAR):
                for function in (far_run, far_counts, far_turns):
                    answer = shown_answer(function(scene, beats))
                    for book in (None, Book()):
                        self.same(shown_answer(function(scene, beats, book)), answer)
                        again = function(book=book, beats=beats, scene=scene)
                        self.same(shown_answer(again), answer)

    def test_left_alone(self):
        for scene in random_scenes(99, 60, 20) + random_scenes(100, 10, 60):
            for beats in FAR_BEATS:
                self.check(scene, beats)

    def test_rings_beside_one_another(self):
        sizes = (3, 4, 5, 7, 11, 13, 17)
        scene = ring_scene(*sizes)
        for beats in FAR_BEATS + (1021020 * 10 ** 30, 1021020 * 10 ** 30 + 1):
            picture, many = [], []
            for size in sizes:
                wave = [1, 2] + [0] * (size - 2)
                rest = beats % size
                # The wave goes from place 0 to the last place, and so on down.
                picture += wave[rest:] + wave[:rest]
                many += [(beats + place) // size for place in range(size)]
            self.same(far_run(scene, beats).picture, tuple(picture))
            self.same(far_counts(scene, beats), tuple(many))
            self.same(far_turns(scene, beats), turns_told(scene, picture, many))
            self.check(scene, beats, [(10 ** 11, 40), (beats - 3, 5), (beats - 1, 30), (beats, 1)])

    def test_pieces_that_come_back_late(self):
        # Rings of 12, 20 and 28 places in one piece: it comes back after 420 beats.
        text = ("..*o.*o..*o." "o..*o.*o.*o....." "*o.*o.*o..*o.*o......*o.*o.*o..*")
        lines = ring_lines(12) + ring_lines(20, 12) + ring_lines(28, 32) + [(0, 12), (13, 33)]
        three = scene_of_text(Web(60, lines), text)
        # Two rings with nearly the same share: the faster one needs long to win.
        waves = [[1 if (i * many) % size < many else 2 if (i * many - many) % size < many else 0
                  for i in range(size)] for size, many in ((28, 9), (31, 10))]
        close = Scene(Web(60, ring_lines(28) + ring_lines(31, 28) + [(0, 28)]), sum(waves, []) + [0])
        for scene in (three, close):
            for beats in FAR_BEATS + (131, 132, 551, 552, 2999):
                self.check(scene, beats)
                self.check(scene, beats, [(beats // 2, 5), (beats - 100, 40), (beats - 99, 14)])

    def test_silent_and_lasting(self):
        quiet = all_ready(Web(20, thread_lines(20)))
        scene = beside(ring_scene(7, 5), quiet)
        for beats in FAR_BEATS:
            self.check(scene, beats)
            self.check(scene, beats, [(beats - 30, 12)])
            self.check(scene, beats, [(beats - 4, 31), (beats - 2, 29), (0, 13)])
        wide = beside(scene, all_ready(Web(28)))
        pokes = [(10 ** 11 * k + k, 3 * k) for k in range(20)]
        self.check(wide, FAR, pokes)
        self.check(all_ready(Web(60)), FAR, [(FAR - 1, 59), (FAR - 2, 58), (FAR, 57), (0, 56)])
        self.same(far_counts(all_ready(Web(1)), FAR, Book([(FAR - 1, 0)])), (1,))
        self.same(far_run(all_ready(Web(1)), FAR, Book([(FAR - 1, 0)])).picture, (1,))
        self.same(far_run(all_ready(Web(1)), FAR - 1, Book([(FAR - 1, 0)])).picture, (0,))
        self.same(far_run(all_ready(Web(1)), FAR, Book([(FAR - 2, 0)])).picture, (2,))

    def test_under_books(self):
        chance = random.Random(101)
        for scene in random_scenes(102, 50, 20) + random_scenes(103, 8, 60):
            size = scene.web.size
            for beats in (FAR, 10 ** 39 + 12345):
                early = random_pokes(chance, 6, 30, size)
                late = [(beats - 1 - t, p) for t, p in random_pokes(chance, 6, 20, size)]
                between = [(chance.randrange(beats), p) for _, p in random_pokes(chance, 6, 9, size)]
                behind = [(min(FAR, beats + t), p) for t, p in random_pokes(chance, 4, 5, size)]
                self.check(scene, beats, early)
                self.check(scene, beats, late + behind)
                self.check(scene, beats, early + between + late + behind + [(5, FAR), (FAR, FAR)])

    def test_pokes_at_following_far_beats(self):
        scene = beside(ring_scene(9), all_ready(Web(6, ring_lines(6))))
        for start in (10 ** 20, FAR - 40):
            pokes = [(start + t, (5 * t) % 15) for t in range(40)]
            self.check(scene, FAR, pokes)
            self.check(scene, start + 17, pokes)

    def test_many_pokes(self):
        chance = random.Random(104)
        scene = random_scene(chance, 30, 36)
        pokes = [(chance.randrange(FAR), chance.randrange(32)) for _ in range(400)]
        self.check(scene, FAR, pokes)
        book = Book(pokes[:200]) | (Book([(t, t % 30) for t in range(400)]) >> 10 ** 38)
        picture, many = far_answers(scene, FAR, book.pokes)
        self.same(far_run(scene, FAR, book).picture, picture)
        self.same(far_counts(scene, FAR, book), many)

    def test_carried_on(self):
        chance = random.Random(105)
        for scene in random_scenes(106, 25, 20):
            size = scene.web.size
            pokes = [(chance.randrange(FAR), p) for _, p in random_pokes(chance, 8, 9, size)]
            book = Book(pokes)
            first = chance.randrange(FAR)
            middle = far_run(scene, first, book)
            rest = (middle, FAR - first, book.since(first))
            self.equal(far_run(*rest), far_run(scene, FAR, book))
            for function in (far_counts, far_turns):
                both = zip(function(scene, first, book), function(*rest))
                self.same(function(scene, FAR, book), tuple(a + b for a, b in both))

    def test_nothing(self):
        for beats in (0, 1, FAR):
            for book in (None, Book([(0, 0), (FAR, 3)])):
                self.equal(far_run(NOTHING, beats, book), NOTHING)
                self.same(far_counts(NOTHING, beats, book), ())
                self.same(far_turns(NOTHING, beats, book), ())


def shown_answer(answer):
    """Return a scene as its picture, another answer as it is."""
    return answer.picture if isinstance(answer, Scene) else answer


if __name__ == "__main__":
    unittest.main()
