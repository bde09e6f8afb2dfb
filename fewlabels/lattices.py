"""Sums of integer multiples of rows of integers."""

from math import gcd


class Lattice:
    """All sums of integer multiples of some rows of integers, each of which has the given width.

    The attribute relations is a list of lists of integers: multiplied with those of one list, the rows have the sum 0;
    and every other such list is a sum of integer multiples of these.
    """

    # Behind each row stand the integers by which the given rows are multiplied for their sum to be this row. What is
    # done to a row is done to them, too, so they tell in the end where it came from.
    def __init__(self, rows, width):
        self._width = width
        self._count = len(rows)
        self._steps = {}
        self.relations = []
        for at, row in enumerate(rows):
            self._take(row + unit_row(at, len(rows)))

    def _take(self, row):
        """Add a row, so that in each column at most one of the steps begins."""
        for column in range(self._width):
            if row[column] == 0:
                continue
            if column not in self._steps:
                self._steps[column] = row
                return
            self._steps[column], row = divided(self._steps[column], row, column)
        self.relations.append(row[self._width:])

    def combination(self, target):
        """The least positive integer k and the integers by which the rows are multiplied to have the sum k * target.

        None if there are none.
        """
        rest = target + [0] * self._count
        times = 1
        for column in range(self._width):
            if rest[column] == 0:
                continue
            if column not in self._steps:
                return None
            step = self._steps[column]
            factor = abs(step[column]) // gcd(step[column], rest[column])
            times = times * factor
            rest = [factor * number for number in rest]
            rest = less(rest, step, rest[column] // step[column])
        return (times, [-number for number in rest[self._width:]])


def unit_row(at, count):
    """A list of count integers: 1 at one index, otherwise 0."""
    return [1 if index == at else 0 for index in range(count)]


def less(row, other, times):
    """The row minus the other one, this multiplied with times."""
    return [mine - times * its for mine, its in zip(row, other)]


def divided(step, row, column):
    """Two rows of which the same sums can be made as of these, the second one with 0 in the column."""
    row = less(row, step, row[column] // step[column])
    while row[column] != 0:
        step, row = row, less(step, row, step[column] // row[column])
    return (step, row)
