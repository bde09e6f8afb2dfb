"""The sums of rows of integers, on which promises [5] to [8] rest."""

import itertools
import unittest

from fewlabels.lattices import Lattice
from tests.oracles import Picks, has_integer_solution, rank


def total(rows, integers, width):
    """The sum of the rows, each multiplied with its integer."""
    return [sum(integer * row[at] for integer, row in zip(integers, rows)) for at in range(width)]


class TestLattice(unittest.TestCase):

    def test_least_multiple(self):
        self.assertEqual(Lattice([[6], [10]], 1).combination([2])[0], 1)
        self.assertEqual(Lattice([[6], [10]], 1).combination([3])[0], 2)
        self.assertEqual(Lattice([[6], [10]], 1).combination([-4])[0], 1)
        self.assertEqual(Lattice([[-4]], 1).combination([6]), (2, [-3]))
        self.assertEqual(Lattice([[2, 1], [0, 3]], 2).combination([1, 0])[0], 6)

    def test_none(self):
        self.assertIsNone(Lattice([[1, 1]], 2).combination([1, 0]))
        self.assertIsNone(Lattice([[0, 0]], 2).combination([0, 1]))
        self.assertIsNone(Lattice([], 1).combination([1]))

    def test_without_rows_and_without_columns(self):
        self.assertEqual(Lattice([], 2).combination([0, 0]), (1, []))
        self.assertEqual(Lattice([], 2).relations, [])
        self.assertEqual(Lattice([[], []], 0).combination([]), (1, [0, 0]))
        self.assertEqual(Lattice([[], []], 0).relations, [[1, 0], [0, 1]])

    def test_rows_are_not_modified(self):
        rows = [[4, 2], [6, 3], [1, 1]]
        Lattice(rows, 2).combination([1, 5])
        self.assertEqual(rows, [[4, 2], [6, 3], [1, 1]])

    def test_relations_make_all_others(self):
        rows = [[2, 0], [4, 0], [6, 0], [0, 3]]
        lattice = Lattice(rows, 2)
        for relation in lattice.relations:
            self.assertEqual(total(rows, relation, 2), [0, 0])
        made = Lattice(lattice.relations, 4)
        for integers in itertools.product(range(-3, 4), repeat=4):
            if total(rows, integers, 2) == [0, 0]:
                self.assertEqual(made.combination(list(integers))[0], 1)

    def test_against_minors(self):
        picks = Picks(8)
        for _ in range(400):
            count, width = 1 + picks.below(4), 1 + picks.below(3)
            rows = [[picks.below(9) - 4 for _ in range(width)] for _ in range(count)]
            target = [picks.below(13) - 6 for _ in range(width)]
            lattice = Lattice(rows, width)
            self.assertEqual(len(lattice.relations), count - rank(rows))
            self.assertTrue(all(total(rows, relation, width) == [0] * width for relation in lattice.relations))
            turned = [[row[at] for row in rows] for at in range(width)]
            found = lattice.combination(target)
            if found is None:
                self.assertGreater(rank(rows + [target]), rank(rows))
                continue
            times, integers = found
            self.assertGreater(times, 0)
            self.assertEqual(total(rows, integers, width), [times * number for number in target])
            for fewer in range(1, min(times, 40)):
                self.assertFalse(has_integer_solution(turned, [fewer * number for number in target]))


if __name__ == "__main__":
    unittest.main()
