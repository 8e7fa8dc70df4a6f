"""Promises 20 and 131 to 135: independent rows, products and squares of matrices of bits."""

import unittest
from copy import deepcopy
from functools import reduce
from itertools import combinations, product
from random import Random

from fardials.bits import independent_rows, products, squares
from fardials.errors import InvalidBits
from tests.samples import GREAT, raised

CALLS = (independent_rows, products, squares)

# Each matrix that breaks a rule, with its attribute.
MISFITS = [
    ([], -1), ((), -1), ([[1]] * 7, -1), ([[2]] * 7, -1), ([[]] * 7, -1),
    ([[]], 0), ([[], []], 0), ([[], [1]], 0), ([[0] * 7], 0), ([[0] * 7, [0]], 0),
    ([[1], []], 1), ([[1], [1, 0]], 1), ([[1, 0], [1]], 1), ([[1, 0], [0] * 7], 1), ([[1, 0], [1, 1], [1]], 2),
    ([[2]], 0), ([[-1]], 0), ([[0, 1], [0, 2]], 1), ([[0, 1], [0, -1], [2, 2]], 1), ([[0, GREAT], [3, 3]], 0),
    ([[0, 0]] * 5 + [[0, 3]], 5), ([[1] * 6] * 3 + [[1] * 5, [1] * 7, [2] * 6], 3),
    ([[0, 1], [1, 2], []], 1), ([[1, 1], [], [1, 2]], 1), ([[0, 5], []], 0),
]


def matrices():
    """All small matrices, and some of each size."""
    for rows, columns in ((1, 1), (1, 2), (2, 1), (2, 2), (2, 3), (3, 2), (3, 3)):
        for bits in product((0, 1), repeat=rows * columns):
            yield [list(bits[at * columns:(at + 1) * columns]) for at in range(rows)]
    for rows, columns in product(range(1, 7), repeat=2):
        chance = Random(10 * rows + columns)
        for odds in (0.0, 0.2, 0.5, 0.5, 0.8, 1.0):
            yield [[int(chance.random() < odds) for _ in range(columns)] for _ in range(rows)]
        # Sums of products.
        for many in (1, 2, 3):
            parts = [([chance.randrange(2) for _ in range(rows)], [chance.randrange(2) for _ in range(columns)])
                     for _ in range(many)]
            yield made(parts, rows, columns)


def made(parts, rows, columns):
    """The matrix that a list of products makes."""
    return [[sum(u[x] * v[y] for u, v in parts) % 2 for y in range(columns)] for x in range(rows)]


def summed(rows, width):
    """The sum by two of rows."""
    return reduce(lambda first, second: tuple(a ^ b for a, b in zip(first, second)), rows, (0,) * width)


def all_sums(rows, width):
    return {summed(chosen, width) for many in range(len(rows) + 1) for chosen in combinations(rows, many)}


def independent(matrix):
    width = len(matrix[0])
    return tuple(x for x, row in enumerate(matrix) if tuple(row) not in all_sums(matrix[:x], width))


def told_products(matrix):
    """The products as point 133 tells them, with choices found among all of them."""
    kept, width = independent(matrix), len(matrix[0])
    choices = []
    for row in matrix:
        found = [chosen for many in range(len(kept) + 1) for chosen in combinations(kept, many)
                 if summed([matrix[at] for at in chosen], width) == tuple(row)]
        assert len(found) == 1
        choices.append(found[0])
    return [(tuple(int(at in chosen) for chosen in choices), tuple(matrix[at])) for at in kept]


class IndependentRows(unittest.TestCase):
    def test_known_matrices(self):
        self.assertEqual(independent_rows([[0, 0], [1, 1], [1, 1], [0, 1]]), (1, 3))
        self.assertEqual(independent_rows([[1, 0, 0], [0, 1, 0], [0, 0, 1]]), (0, 1, 2))
        self.assertEqual(independent_rows([[1, 1, 0], [0, 1, 1], [1, 0, 1], [1, 1, 1]]), (0, 1, 3))
        for rows, columns in product(range(1, 7), repeat=2):
            self.assertEqual(independent_rows([[0] * columns] * rows), ())
            self.assertEqual(independent_rows([[1] * columns] * rows), (0,))
        self.assertEqual(independent_rows([[int(x == y) for y in range(6)] for x in range(6)]), tuple(range(6)))

    def test_many_matrices(self):
        for matrix in matrices():
            found = independent_rows(matrix)
            self.assertIs(type(found), tuple)
            self.assertEqual(found, independent(matrix))


class Products(unittest.TestCase):
    def test_known_matrices(self):
        self.assertEqual(products([[0, 0], [1, 1], [1, 1], [0, 1]]), [((0, 1, 1, 0), (1, 1)), ((0, 0, 0, 1), (0, 1))])
        self.assertEqual(products([[0, 0, 0]] * 2), [])
        self.assertEqual(products([[1]]), [((1,), (1,))])
        self.assertEqual(products([[1, 1, 0], [0, 1, 1], [1, 0, 1]]),
                         [((1, 0, 1), (1, 1, 0)), ((0, 1, 1), (0, 1, 1))])

    def test_many_matrices(self):
        for matrix in matrices():
            found = products(matrix)
            self.assertIs(type(found), list)
            for pair in found:
                self.assertEqual([type(pair), *map(type, pair)], [tuple] * 3)
            self.assertEqual(found, told_products(matrix))
            self.assertEqual(made(found, len(matrix), len(matrix[0])), matrix)
            # So no shorter list makes the matrix.
            rows = [tuple(row) for row in matrix]
            self.assertEqual(len(all_sums(rows, len(rows[0]))), 2 ** len(found))


class Squares(unittest.TestCase):
    def test_known_matrices(self):
        self.assertEqual(squares([[0, 0], [0, 1]]), ((0, 0), (0, 1)))
        self.assertEqual(squares([[1, 1], [1, 0]]), ((0, 0), (0, 1)))
        self.assertEqual(squares([[1, 0], [0, 1]]), ((0, 0), (0, 0)))
        self.assertEqual(squares([[1, 0, 1]]), ((0, 0, 0),))
        self.assertEqual(squares([[1], [0]]), ((0,), (0,)))
        self.assertEqual(squares([[1, 0, 1], [1, 1, 0], [0, 0, 0]]), ((0, 0, 0), (0, 1, 1), (0, 1, 0)))

    def test_many_matrices(self):
        for matrix in matrices():
            found = squares(matrix)
            self.assertEqual({type(part) for part in (found, *found)}, {tuple})
            wanted = [tuple((bit + row[0] + matrix[0][y] + matrix[0][0]) % 2 for y, bit in enumerate(row))
                      for row in matrix]
            self.assertEqual(found, tuple(wanted))
            self.assertEqual(found[0], (0,) * len(matrix[0]))
            self.assertEqual({row[0] for row in found}, {0})

    def test_the_least_number_of_products(self):
        for matrix in matrices():
            rows, columns = len(matrix), len(matrix[0])
            if rows + columns > 6 or sum(map(sum, matrix)) % 3 == 0 and rows + columns > 5:
                continue
            counts = []
            for p, q in product(product((0, 1), repeat=rows), product((0, 1), repeat=columns)):
                rest = [tuple(matrix[x][y] ^ p[x] ^ q[y] for y in range(columns)) for x in range(rows)]
                counts.append(len(all_sums(rest, columns)))
            self.assertEqual(2 ** len(products(squares(matrix))), min(counts))


class AllThree(unittest.TestCase):
    def test_matrices_that_break_a_rule(self):
        for matrix, row in MISFITS:
            for call in CALLS:
                for passed in (matrix, tuple(map(tuple, matrix))):
                    error = raised(call, passed)
                    self.assertIs(type(error), InvalidBits, (call, matrix))
                    self.assertEqual(error.row, row, (call, matrix))

    def test_lists_and_tuples_that_are_not_changed(self):
        matrix = [[0, 0], [1, 1], [1, 1], [0, 1]]
        before = deepcopy(matrix)
        for call in CALLS:
            first = call(matrix)
            self.assertEqual(matrix, before)
            call([[1, 0, 1], [1, 1, 1]])
            for passed in (tuple(map(tuple, matrix)), list(map(tuple, matrix)), tuple(matrix)):
                self.assertEqual(call(passed), first)

    def test_lists_are_new_ones(self):
        matrix = [[1, 0], [0, 1]]
        found = products(matrix)
        found.clear()
        matrix_found = squares(matrix)
        matrix[1][1] = 0
        self.assertEqual(matrix_found, ((0, 0), (0, 0)))
        self.assertEqual(len(products([[1, 0], [0, 1]])), 2)
