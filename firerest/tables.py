"""Tables of greatest gains, their products and powers."""

from firerest.errors import BadTable, NoPlace, SizesDiffer


class Table:
    """As many rows as columns, with whole numbers or None as entries."""

    def __init__(self, rows):
        for index, row in enumerate(rows):
            if len(row) != len(rows):
                raise BadTable(index)
        self.rows = tuple([tuple(row) for row in rows])
        self.size = len(rows)

    def gain(self, a, b):
        """Return the entry of row `a` and column `b`."""
        for number in (a, b):
            if not 0 <= number < self.size:
                raise NoPlace(number)
        return self.rows[a][b]

    def __mul__(self, other):
        check_sizes(self, other)
        columns = [[row[index] for row in other.rows] for index in range(other.size)]
        return Table([[best_sum(row, column) for column in columns] for row in self.rows])

    def __or__(self, other):
        check_sizes(self, other)
        return Table([greater_row(one, two) for one, two in zip(self.rows, other.rows)])

    def __eq__(self, other):
        return isinstance(other, Table) and self.rows == other.rows


def check_sizes(one, two):
    """Raise `SizesDiffer` unless the tables have the same size."""
    if one.size != two.size:
        raise SizesDiffer(one.size, two.size)


def best_sum(row, column):
    """Return the greatest sum of two numbers at the same index, or None."""
    sums = [x + y for x, y in zip(row, column) if x is not None and y is not None]
    return max(sums, default=None)


def greater_row(one, two):
    """Return the greater entries of two rows, index by index."""
    return [greater(x, y) for x, y in zip(one, two)]


def greater(x, y):
    """Return the greater one of two entries; a number is greater than None."""
    if x is None:
        return y
    if y is None:
        return x
    return max(x, y)


def one_table(size):
    """Return the table whose products with other tables equal those tables."""
    return Table([[0 if a == b else None for b in range(size)] for a in range(size)])


def power(table, times):
    """Return the product of `times` factors that are all `table`."""
    found = one_table(table.size)
    # Squares first, so that a number of forty digits takes few products.
    for index in range(times.bit_length() - 1, -1, -1):
        found = found * found
        if times >> index & 1 == 1:
            found = found * table
    return found


def greatest_gains(table):
    """Return the greatest entry of each row, or None if it has none."""
    return tuple([max([x for x in row if x is not None], default=None) for row in table.rows])
