"""Books and paces: points 16 and 19."""

import itertools
import random
import unittest

from firerest.books import Book, Pace
from firerest.runs import run
from firerest.scenes import all_ready
from firerest.webs import Web
from tests.support import FAR, OTHERS, Case, next_picture, near_of, random_scenes

BEATS = (0, 1, 2, 3, 4, 7, 12, 10 ** 39, 10 ** 39 + 7, FAR - 1, FAR)
BAD_NUMBERS = (-1, -2, -10 ** 30, -FAR, -FAR - 1)


def in_order(pokes):
    """Return what the field `pokes` holds for these pokes."""
    return tuple(sorted({tuple(poke) for poke in pokes}))


def some_pokes():
    """Return sequences of pokes with small and with far numbers."""
    chance = random.Random(40)
    far = [(10 ** 39 + i, p) for i in range(9) for p in (0, 10 ** 30)]
    found = [[], [(0, 0)], [(FAR, 0)], [(FAR, FAR), (0, 0)], [(4, 1), (0, 2), (4, 1)],
             [(3, 5), (3, 2), (3, 5), (1, 7), (1, 0), (FAR, 2), (FAR - 1, 2)], far]
    for _ in range(25):
        pokes = [(chance.randint(0, 12), chance.randint(0, 5)) for _ in range(chance.randint(0, 30))]
        pokes += [(chance.choice(BEATS), chance.choice((0, 3, 10 ** 33))) for _ in range(4)]
        found.append(pokes + pokes[:3])
    found.append([(chance.randint(0, 99), chance.randint(0, 59)) for _ in range(360)])
    return found


class BookTest(Case):

    def test_pokes(self):
        for pokes in some_pokes():
            book = self.ask(Book, pokes)
            wanted = in_order(pokes)
            self.same(book.pokes, wanted)
            self.same(len(book), len(wanted))
            self.same(list(book), list(wanted))
            self.same(list(book), list(wanted))
            self.same([(a, b) for a in Book(pokes[:3]) for b in Book(pokes[:3])],
                      [(a, b) for a in in_order(pokes[:3]) for b in in_order(pokes[:3])])
            self.equal(Book(pokes[::-1] + pokes[:5]), book)
        self.same(Book().pokes, ())
        self.equal(Book(), Book([]))
        self.equal(Book(pokes=((1, 2),)), Book([[1, 2]]))

    def test_later_changes(self):
        pokes = [[1, 2], [0, 3]]
        book = Book(pokes)
        pokes[0][0] = 0
        pokes.append([5, 5])
        self.same(book.pokes, ((0, 3), (1, 2)))
        self.same(book.at(1), (2,))

    def test_bad_poke(self):
        good = [(3, 1), (0, 2), (FAR, 10 ** 50)]
        for number in BAD_NUMBERS:
            for poke in ((number, 0), (0, number), (number, number), (FAR, number), (number, FAR)):
                for index in range(4):
                    self.fails("BadPoke", (index,), Book, good[:index] + [poke])
                    self.fails("BadPoke", (index,), Book, good[:index] + [poke] + good[index:])
                    self.fails("BadPoke", (index,), Book, good[:index] + [poke, (-1, 0), (0, -1)])

    def test_at(self):
        for pokes in some_pokes():
            book = Book(pokes)
            times = [beat for beat, _ in pokes]
            for beat in set(times + list(BEATS) + [t + 1 for t in times if t < FAR]):
                wanted = tuple(sorted({place for time, place in pokes if time == beat}))
                self.same(book.at(beat), wanted)
                self.same(book.at(beat=beat), wanted)

    def test_end(self):
        for pokes in some_pokes():
            self.same(Book(pokes).end, max([beat for beat, _ in pokes], default=-1) + 1)
        self.same(Book([(FAR, 0)]).end, FAR + 1)
        self.same(Book([(0, 7)]).end, 1)
        self.same(Book().end, 0)

    def test_until_since_and_about(self):
        for pokes in some_pokes():
            book = Book(pokes)
            for beats in BEATS + (book.pokes[-1][0] if pokes else 0, min(book.end, FAR)):
                before = [(t, p) for t, p in pokes if t < beats]
                after = [(t - beats, p) for t, p in pokes if t >= beats]
                self.equal(book.until(beats), Book(before))
                self.same(book.until(beats).pokes, in_order(before))
                self.same(book.since(beats).pokes, in_order(after))
                back = [(beats - 1 - t, p) for t, p in before]
                self.same(book.about(beats).pokes, in_order(back))
                self.equal(book.about(beats).about(beats), book.until(beats))
                self.equal(book.until(beats) | (book.since(beats) >> beats), book)
            self.same(book.pokes, in_order(pokes))
        book = Book([(4, 1)])
        self.equal(book.until(beats=5), book)
        self.equal(book.since(beats=3), Book([(1, 1)]))
        self.equal(book.about(beats=7), Book([(2, 1)]))

    def test_later(self):
        for pokes in some_pokes():
            pokes = [(t, p) for t, p in pokes if t <= 10 ** 39 + 7]
            book = Book(pokes)
            for beats in (0, 1, 5, 10 ** 30, FAR - 10 ** 39 - 7):
                later = book >> beats
                self.same(later.pokes, in_order([(t + beats, p) for t, p in pokes]))
                self.same(later.end, book.end + beats if pokes else 0)
                self.equal(later.since(beats), book)
                self.equal(later.until(beats), Book())
                if pokes:
                    self.same(later.at(book.pokes[0][0] + beats), book.at(book.pokes[0][0]))
            self.same(book.pokes, in_order(pokes))
        self.same((Book([(0, 3)]) >> FAR).pokes, ((FAR, 3),))
        self.same((Book() >> FAR).pokes, ())
        self.same(((Book([(1, 3)]) >> 2) >> 3).pokes, ((6, 3),))

    def test_both(self):
        for one, two in itertools.product(some_pokes()[::2], some_pokes()[1::3]):
            left, right = Book(one), Book(two)
            both = left | right
            self.same(both.pokes, in_order(one + two))
            self.same(len(both), len(in_order(one + two)))
            self.same((left.pokes, right.pokes), (in_order(one), in_order(two)))
        book = Book([(1, 2), (0, 5)])
        self.equal(book | book, book)
        self.equal(book | Book(), book)
        self.equal(Book() | book, book)
        self.same((book | Book([(1, 0)])).at(1), (0, 2))

    def test_within(self):
        for one, two in itertools.product(some_pokes()[::3], some_pokes()[::2]):
            self.assertIs(Book(one).within(Book(two)), set(in_order(one)) <= set(in_order(two)))
            self.assertIs(Book(one).within(Book(one + two)), True)
            self.assertIs(Book().within(Book(two)), True)
            self.assertIs(Book(two).within(Book()), not two)
        self.assertIs(Book([(1, 2)]).within(other=Book([(2, 1)])), False)
        self.assertIs(Book([(1, 2), (3, 4)]).within(Book([(1, 4), (3, 2), (1, 2)])), False)
        book = Book([(FAR, 1)])
        self.assertIs(book.within(book), True)
        self.assertIs(book.within(Book([(FAR - 1, 1)])), False)

    def test_in(self):
        for pokes in some_pokes()[:12]:
            book = Book(pokes)
            for beat in {0, 1, 3, 4, -1, FAR, -FAR, *[t for t, _ in pokes]}:
                for place in {0, 1, 2, -1, 10 ** 30, -FAR, *[p for _, p in pokes]}:
                    wanted = (beat, place) in in_order(pokes)
                    self.assertIs((beat, place) in book, wanted)
                    self.assertIs([beat, place] in book, wanted)

    def test_many_pokes(self):
        parts = [Book([(t, p) for t in range(20 * k, 20 * k + 20) for p in range(20)])
                 for k in range(10)]
        book = Book()
        for more in parts:
            book = book | more
        self.same(len(book), 4000)
        self.same(book.pokes, tuple((t, p) for t in range(200) for p in range(20)))
        self.same(book.end, 200)
        self.same(book.at(137), tuple(range(20)))
        self.assertIs((137, 19) in book, True)
        self.assertIs((137, 20) in book, False)
        self.same(book.until(150).end, 150)
        self.same(len(book.since(150)), 1000)
        self.same((book >> 10 ** 39).at(10 ** 39 + 199), tuple(range(20)))
        self.same(book.about(200).pokes, book.pokes)
        self.assertIs(parts[3].within(book), True)
        self.assertIs(book.within(parts[3]), False)
        self.equal(book | book, book)
        self.same(run(all_ready(Web(3)), 200, book).picture, pictures_under(Web(3), book, 200))

    def test_equality(self):
        book = Book([(0, 1), (2, 3)])
        self.equal(book, book)
        self.equal(book, Book([[2, 3], [0, 1], [2, 3]]))
        self.equal(Book(), Book(()))
        for other in (Book(), Book([(0, 1)]), Book([(1, 0), (2, 3)]), Book([(0, 1), (2, 4)]),
                      Book([(0, 1), (2, 3), (2, 4)])):
            self.unequal(book, other)

    def test_equality_with_other_values(self):
        class Alike:
            pokes = ()

        for other in OTHERS + (Alike(), Pace(1), ((0, 1),)):
            self.unequal(Book(), other)
            self.unequal(Book([(0, 1)]), other)


def pictures_under(web, book, beats):
    """Return the picture at beat `beats` of a web that is ready at first."""
    picture = (0,) * web.size
    for beat in range(beats):
        poked = [place for time, place in book.pokes if time == beat]
        picture = next_picture(near_of(web), picture, poked)
    return picture


def some_paces():
    """Return (period, pokes) for short and long periods."""
    chance = random.Random(41)
    found = [(1, []), (60, []), (1, [(0, 0), (0, 5), (0, 0)]), (3, [(2, 0)]),
             (60, [(59, 3), (0, 10 ** 40), (59, 0)]), (5, [(4, 1), (0, 2), (4, 0), (4, 1)])]
    for _ in range(20):
        period = chance.randint(1, 60)
        pokes = [(chance.randrange(period), chance.randint(0, 9)) for _ in range(chance.randint(0, 40))]
        found.append((period, pokes))
    found.append((50, [(chance.randrange(50), chance.randrange(60)) for _ in range(400)]))
    return found


class PaceTest(Case):

    def test_fields(self):
        for period, pokes in some_paces():
            pace = self.ask(Pace, period, pokes)
            self.same(pace.period, period)
            self.same(pace.pokes, in_order(pokes))
        self.same(Pace(4).pokes, ())
        self.equal(Pace(pokes=[(1, 2)], period=4), Pace(4, ((1, 2),)))

    def test_bad_poke(self):
        for period in (1, 2, 5, 60):
            good = [(0, 1), (period - 1, 2), (0, 10 ** 45)]
            wrong = [(period, 0), (period + 1, 3), (FAR, 0), (10 ** 30, 0), (-period, 0)]
            wrong += [(number, 0) for number in BAD_NUMBERS] + [(0, number) for number in BAD_NUMBERS]
            wrong += [(period, -1), (-1, -1)]
            for poke in wrong:
                for index in range(4):
                    self.fails("BadPoke", (index,), Pace, period, good[:index] + [poke])
                    self.fails("BadPoke", (index,), Pace, period, good[:index] + [poke] + good[index:])
                    self.fails("BadPoke", (index,), Pace, period, good[:index] + [poke, (-1, 0), poke])

    def test_at(self):
        for period, pokes in some_paces():
            pace = Pace(period, pokes)
            for beat in list(range(2 * period + 1)) + [10 ** 39 + i for i in range(period)] + [FAR, FAR - 1]:
                wanted = tuple(sorted({place for phase, place in pokes if beat % period == phase}))
                self.same(pace.at(beat), wanted)
                self.same(pace.at(beat=beat), wanted)

    def test_book(self):
        for period, pokes in some_paces():
            pace = Pace(period, pokes)
            for beats in (0, 1, 2, period - 1, period, period + 1, 2 * period + 3, 100, 400):
                book = pace.book(beats)
                wanted = in_order([(t, p) for t in range(beats) for phase, p in pokes if t % period == phase])
                self.same(book.pokes, wanted)
                if len(wanted) <= 400:
                    self.equal(book, Book(wanted))
            self.same((pace.period, pace.pokes), (period, in_order(pokes)))
        self.same(Pace(1, [(0, 2)]).book(beats=3).pokes, ((0, 2), (1, 2), (2, 2)))

    def test_since(self):
        for period, pokes in some_paces():
            pace = Pace(period, pokes)
            for beats in (0, 1, 2, period - 1, period, period + 1, 10 ** 39 + 5, FAR - 1, FAR):
                later = pace.since(beats)
                self.same(later.period, period)
                for beat in range(period + 2):
                    self.same(later.at(beat), pace.at(beat + beats))
                self.same(len(later.pokes), len(pace.pokes))
                self.same(later.pokes, in_order(later.pokes))
            self.equal(pace.since(beats=0), pace)
            self.equal(pace.since(period), pace)
            self.same((pace.period, pace.pokes), (period, in_order(pokes)))

    def test_equality(self):
        pace = Pace(4, [(1, 2), (3, 0)])
        self.equal(pace, pace)
        self.equal(pace, Pace(4, [[3, 0], [1, 2], [3, 0]]))
        for other in (Pace(5, [(1, 2), (3, 0)]), Pace(8, [(1, 2), (3, 0)]), Pace(4), Pace(4, [(1, 2)]),
                      Pace(4, [(1, 2), (3, 1)]), Pace(4, [(1, 2), (2, 0)])):
            self.unequal(pace, other)
        self.unequal(Pace(1), Pace(2))

    def test_equality_with_other_values(self):
        class Alike:
            period = 1
            pokes = ()

        for other in OTHERS + (Alike(), Book(), (1, ())):
            self.unequal(Pace(1), other)

    def test_runs(self):
        for (period, pokes), scene in zip(some_paces(), random_scenes(42, 30, 12)):
            pace = Pace(period, pokes)
            near = near_of(scene.web)
            picture = scene.picture
            for beat in range(91):
                self.same(run(scene, beat, pace.book(90)).picture, picture)
                poked = [place for phase, place in pokes if beat % period == phase]
                picture = next_picture(near, picture, poked)


if __name__ == "__main__":
    unittest.main()
