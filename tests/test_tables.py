"""Tables and their powers: points 25 and 26."""

import random
import unittest

from firerest.tables import Table, greatest_gains, one_table, power
from tests.support import FAR, OTHERS, Case


def random_rows(chance, size, holes, most=9):
    """Return rows in which `holes` of ten entries are None."""
    return [[None if chance.randrange(10) < holes else chance.randint(-most, most)
             for _ in range(size)] for _ in range(size)]


def some_rows():
    """Return the rows of tables with few, many and very large entries."""
    chance = random.Random(80)
    found = [[], [[0]], [[None]], [[FAR]], [[-FAR]], [[0, None], [2, -1]], [[None, None], [None, None]]]
    for size in range(1, 8):
        for holes in (0, 3, 7, 9):
            found.append(random_rows(chance, size, holes))
            found.append(random_rows(chance, size, holes, 10 ** 60))
    return found


def product_of(one, two):
    """Return the rows of the product, by the words of the point."""
    size = len(one)
    found = []
    for a in range(size):
        row = []
        for b in range(size):
            best = None
            for c in range(size):
                if one[a][c] is not None and two[c][b] is not None:
                    total = one[a][c] + two[c][b]
                    best = total if best is None or total > best else best
            row.append(best)
        found.append(tuple(row))
    return tuple(found)


def greater_of(one, two):
    """Return the rows of the greater entries, by the words of the point."""
    found = []
    for row, other in zip(one, two):
        pairs = [[x for x in pair if x is not None] for pair in zip(row, other)]
        found.append(tuple(max(pair) if pair else None for pair in pairs))
    return tuple(found)


class TableTest(Case):

    def test_fields(self):
        for rows in some_rows():
            table = self.ask(Table, rows)
            self.same(table.rows, tuple(tuple(row) for row in rows))
            self.same(table.size, len(rows))
        self.same(Table(rows=[[3]]).rows, ((3,),))
        self.same(Table(()).rows, ())
        self.same(Table([]).size, 0)

    def test_later_changes(self):
        rows = [[1, 2], [3, 4]]
        table = Table(rows)
        rows[0][1] = 9
        rows.append([1])
        self.same(table.rows, ((1, 2), (3, 4)))
        self.same(table.gain(0, 1), 2)

    def test_bad_table(self):
        for size in (1, 2, 3, 60):
            for index in sorted({0, size // 2, size - 1}):
                for many in (0, size - 1, size + 1, size + 7):
                    rows = [[0] * size for _ in range(size)]
                    rows[index] = [0] * many
                    if many != size:
                        self.fails("BadTable", (index,), Table, rows)
                        rows[-1] = []
                        self.fails("BadTable", (index,), Table, rows)
        self.fails("BadTable", (0,), Table, [[0, 1, 2], [3, 4, 5]])
        self.fails("BadTable", (0,), Table, [[0], [1]])
        self.fails("BadTable", (1,), Table, [[0, 1], [2]])
        self.fails("BadTable", (0,), Table, [[]])
        self.fails("BadTable", (2,), Table, [[0, None, 1], [2, 3, 4], [5, 6]])

    def test_gain(self):
        for rows in some_rows():
            table = Table(rows)
            for a, row in enumerate(rows):
                for b, entry in enumerate(row):
                    self.same(table.gain(a, b), entry)
        table = Table([[1, 2], [3, None]])
        self.same(table.gain(b=0, a=1), 3)
        for number in (-1, -2, 2, 3, FAR, -FAR, 10 ** 30):
            self.fails("NoPlace", (number,), table.gain, number, 0)
            self.fails("NoPlace", (number,), table.gain, 1, number)
            self.fails("NoPlace", (number,), table.gain, number, number)
            self.fails("NoPlace", (number,), table.gain, number, -7)
            self.fails("NoPlace", (-7,), table.gain, -7, number)
        self.fails("NoPlace", (0,), Table([]).gain, 0, 0)
        self.fails("NoPlace", (1,), Table([]).gain, 1, 0)

    def test_product_and_greater(self):
        chance = random.Random(81)
        for rows in some_rows():
            for holes in (0, 4, 8):
                other = random_rows(chance, len(rows), holes, chance.choice((2, 9, 10 ** 50)))
                one, two = Table(rows), Table(other)
                for left, right, a, b in ((one, two, rows, other), (two, one, other, rows),
                                          (one, one, rows, rows)):
                    self.same((left * right).rows, product_of(a, b))
                    self.same((left * right).size, len(rows))
                    self.same((left | right).rows, greater_of(a, b))
                    self.same((left | right).size, len(rows))
                self.same(one.rows, tuple(tuple(row) for row in rows))
                self.same(two.rows, tuple(tuple(row) for row in other))

    def test_below_zero(self):
        low = Table([[-5, None], [-FAR, -3]])
        self.same((low * low).rows, ((-10, None), (-3 - FAR, -6)))
        self.same((low | Table([[None, -1], [-FAR - 1, -4]])).rows, ((-5, -1), (-FAR, -3)))
        self.same((low | Table([[0, 0], [0, 0]])).rows, ((0, 0), (0, 0)))

    def test_sizes_differ(self):
        for one in (0, 1, 2, 5, 60):
            for two in (0, 1, 3, 60):
                if one != two:
                    left, right = one_table(one), one_table(two)
                    self.fails("SizesDiffer", (one, two), lambda: left * right)
                    self.fails("SizesDiffer", (one, two), lambda: left | right)
                    self.fails("SizesDiffer", (two, one), lambda: right * left)
                    self.fails("SizesDiffer", (two, one), lambda: right | left)

    def test_sixty_rows(self):
        chance = random.Random(82)
        one, two = random_rows(chance, 60, 5), random_rows(chance, 60, 2, 10 ** 33)
        self.same((Table(one) * Table(two)).rows, product_of(one, two))
        self.same((Table(one) | Table(two)).rows, greater_of(one, two))
        self.same(Table(two).gain(59, 58), two[59][58])

    def test_equality(self):
        table = Table([[0, None], [2, -1]])
        self.equal(table, table)
        self.equal(table, Table(((0, None), (2, -1))))
        self.equal(Table([]), Table(()))
        for rows in ([[0, None], [2, 1]], [[0, 0], [2, -1]], [[None, None], [2, -1]], [[0]], [],
                     [[0, 2], [None, -1]]):
            self.unequal(table, Table(rows))
        self.equal(Table([[FAR]]), Table([[10 ** 40]]))
        self.unequal(Table([[FAR]]), Table([[FAR + 1]]))
        self.unequal(Table([[0]]), Table([[None]]))

    def test_equality_with_other_values(self):
        class Alike:
            rows = ()
            size = 0

        for other in OTHERS + (Alike(), ((0,),), [[0]]):
            self.unequal(Table([]), other)
            self.unequal(Table([[0]]), other)


class PowerTest(Case):

    def test_one_table(self):
        for size in (0, 1, 2, 7, 60):
            table = one_table(size)
            self.same(table.size, size)
            self.same(table.rows, tuple(tuple(0 if a == b else None for b in range(size))
                                        for a in range(size)))
        self.equal(one_table(size=2), Table([[0, None], [None, 0]]))
        for rows in some_rows():
            table = Table(rows)
            self.equal(table * one_table(table.size), table)
            self.equal(one_table(table.size) * table, table)

    def test_small_powers(self):
        for rows in some_rows():
            table = Table(rows)
            wanted = one_table(table.size).rows
            for times in range(12):
                self.same(power(table, times).rows, wanted)
                wanted = product_of(wanted, rows)
            self.equal(power(times=1, table=table), table)
            self.same(table.rows, tuple(tuple(row) for row in rows))

    def test_far_powers(self):
        chance = random.Random(83)
        for rows in some_rows()[:25]:
            table = Table(rows)
            for times in (10 ** 39 // 3, FAR // 2, chance.randrange(FAR // 2)):
                half = power(table, times)
                self.same(power(table, 2 * times).rows, product_of(half.rows, half.rows))
                more = power(table, times + 1)
                self.same(more.rows, product_of(half.rows, rows))
                self.same(more.rows, product_of(rows, half.rows))
        self.same(power(Table([[7]]), FAR).rows, ((7 * FAR,),))
        self.same(power(Table([[-7]]), FAR - 1).rows, ((7 - 7 * FAR,),))
        self.same(power(Table([[None]]), FAR).rows, ((None,),))
        self.same(power(Table([]), FAR).rows, ())
        self.equal(power(Table([[4, None], [None, FAR]]), FAR), Table([[4 * FAR, None], [None, FAR ** 2]]))
        swap = Table([[None, 3], [-1, None]])
        self.same(power(swap, FAR).rows, ((FAR, None), (None, FAR)))
        self.same(power(swap, FAR - 1).rows, ((None, FAR + 1), (FAR - 3, None)))

    def test_far_power_of_sixty_rows(self):
        ring = [[None] * 60 for _ in range(60)]
        for place in range(60):
            ring[place][(place + 1) % 60] = 1 if place == 7 else 0
        table = power(Table(ring), 60 * 10 ** 38 + 1)
        self.same(table.gain(3, 4), 10 ** 38)
        self.same(table.gain(7, 8), 10 ** 38 + 1)
        self.same(table.gain(7, 9), None)

    def test_greatest_gains(self):
        for rows in some_rows():
            wanted = []
            for row in rows:
                numbers = [entry for entry in row if entry is not None]
                wanted.append(max(numbers) if numbers else None)
            self.same(greatest_gains(Table(rows)), tuple(wanted))
        self.same(greatest_gains(table=Table([[None, -FAR], [None, None]])), (-FAR, None))
        self.same(greatest_gains(Table([])), ())


if __name__ == "__main__":
    unittest.main()
