"""Promises 20 and 141 to 144: one-sign boxes that show a matrix."""

import unittest
from copy import deepcopy
from itertools import product
from random import Random

from fardials.bits import products, squares
from fardials.errors import InvalidBits
from fardials.onesign import OneSign, one_sign
from fardials.parity import parity_table
from fardials.trees import check_trees, leaves
from fardials.wires import wired
from tests.samples import BOX, SQUARE, raised
from tests.test_bits import MISFITS

ONE_BOX = parity_table(SQUARE, (0, 0, 0, 1))
INNER = [[1, 0, 1, 1], [0, 0, 1, 1], [0, 1, 1, 0]]


def matrices():
    for rows, columns in ((1, 1), (1, 3), (3, 1), (2, 2)):
        for bits in product((0, 1), repeat=rows * columns):
            yield [list(bits[at * columns:(at + 1) * columns]) for at in range(rows)]
    for rows, columns in product(range(1, 7), repeat=2):
        chance = Random(7 * rows + columns)
        for odds in (0, 0.5, 0.5, 0.8):
            yield [[int(chance.random() < odds) for _ in range(columns)] for _ in range(rows)]
    yield [[int(x == y) for y in range(6)] for x in range(6)]
    yield [[int(x == y > 0) for y in range(6)] for x in range(6)]


def tree_of(dials, bit, box=0):
    """The tree of point 142, from its top down."""
    if box == len(dials):
        return ("tell", bit)
    return ("ask", box, dials[box], tuple(tree_of(dials, bit ^ sign, box + 1) for sign in (0, 1)))


def chosen_lines(matrix):
    """Some rows and columns in any order that make a valid shape."""
    chance = Random(str(matrix))
    rows, columns = range(len(matrix)), range(len(matrix[0]))
    yield [len(matrix) - 1], [0]
    yield [0], [len(matrix[0]) - 1]
    for many, most in ((1, 4), (2, 4), (3, 3), (4, 2), (2, 2)):
        yield (chance.sample(rows, min(many, len(rows))), chance.sample(columns, min(most, len(columns))))


class OneSigns(unittest.TestCase):
    def test_attributes(self):
        left, right = [("tell", 0), ("ask", 0, 0, (("tell", 0), ("tell", 1)))], [("tell", 1)]
        found = OneSign(3, left, right)
        kept = tuple(left), tuple(right)
        left.clear()
        right.append(("tell", 0))
        self.assertEqual((found.count, found.left, found.right), (3, *kept))
        self.assertEqual((type(found.left), type(found.right)), (tuple, tuple))
        self.assertEqual(vars(OneSign(count=3, left=kept[0], right=kept[1])), vars(found))

    def test_nothing_is_checked(self):
        found = OneSign(0, [("ask", 7, -1, ()), ("tell", 5)], ())
        self.assertEqual((found.count, found.left, found.right), (0, (("ask", 7, -1, ()), ("tell", 5)), ()))


class OneSignTrees(unittest.TestCase):
    def test_known_matrices(self):
        found = one_sign([[0, 0], [0, 1]])
        tells = (("tell", 0), ("tell", 1))
        self.assertEqual(found.count, 1)
        self.assertEqual(found.left, (("ask", 0, 0, tells), ("ask", 0, 1, tells)))
        self.assertEqual(found.right, found.left)
        self.assertEqual(found(1, 1, (0,)), (0, 1))
        found = one_sign([[1, 0, 0], [0, 1, 1]])
        self.assertEqual((found.count, found.left, found.right),
                         (0, (("tell", 1), ("tell", 0)), (("tell", 0), ("tell", 1), ("tell", 1))))

    def test_the_trees_of_many_matrices(self):
        counts = set()
        for matrix in matrices():
            found = one_sign(matrix)
            self.assertIs(type(found), OneSign)
            parts = products(squares(matrix))
            self.assertEqual(found.count, len(parts))
            self.assertEqual((type(found.left), type(found.right)), (tuple, tuple))
            self.assertEqual(list(found.left), [tree_of([u[x] for u, v in parts], row[0])
                                                for x, row in enumerate(matrix)])
            self.assertEqual(list(found.right), [tree_of([v[y] for u, v in parts], bit ^ matrix[0][0])
                                                 for y, bit in enumerate(matrix[0])])
            counts.add(found.count)
            for tree in (*found.left, *found.right):
                for asked, sign in leaves(tree):
                    self.assertEqual([box for box, dial, read in asked], list(range(found.count)))
        self.assertEqual(counts, set(range(6)))

    def test_wiring_the_boxes_shows_the_matrix(self):
        self.assertEqual(ONE_BOX, BOX)
        for matrix in matrices():
            found = one_sign(matrix)
            for rows, columns in chosen_lines(matrix):
                if found.count == 5 and len(rows) * len(columns) > 4:
                    continue
                shape = ((len(rows), 2), (len(columns), 2))
                left, right = [found.left[x] for x in rows], [found.right[y] for y in columns]
                boxes = [ONE_BOX] * found.count
                check_trees(left, 0, boxes, shape)
                table = wired(boxes, shape=shape, left=left, right=right)
                shown = parity_table(shape, [matrix[x][y] for x in rows for y in columns])
                if found.count > 0:
                    self.assertEqual(table, shown * 2 ** (found.count - 1))
                    continue
                self.assertEqual(table.whole, 1)
                self.assertTrue(all(amount <= most for row, above in zip(table.rows, shown.rows)
                                    for amount, most in zip(row, above)))

    def test_lists_and_tuples_that_are_not_changed(self):
        matrix = deepcopy(INNER)
        first = one_sign(matrix)
        self.assertEqual(matrix, INNER)
        one_sign([[1, 0], [0, 0]])
        self.assertEqual(vars(one_sign(tuple(map(tuple, matrix)))), vars(first))
        matrix[0][0] ^= 1
        self.assertEqual(vars(one_sign(INNER)), vars(first))


class Calls(unittest.TestCase):
    def test_many_matrices(self):
        for matrix in matrices():
            answer = one_sign(matrix)
            parts = products(squares(matrix))
            for x, row in enumerate(matrix):
                for y, bit in enumerate(row):
                    told = [0, 0]
                    for signs in product((0, 1), repeat=answer.count):
                        pair = answer(x, y, signs)
                        self.assertIs(type(pair), tuple)
                        reads = [sign ^ (u[x] & v[y]) for sign, (u, v) in zip(signs, parts)]
                        self.assertEqual(pair, (sum(signs, row[0]) % 2,
                                                sum(reads, matrix[0][y] + matrix[0][0]) % 2))
                        self.assertEqual(pair[0] ^ pair[1], bit)
                        told[0] += pair[0]
                        told[1] += pair[1]
                    if answer.count > 0:
                        self.assertEqual(told, [2 ** (answer.count - 1)] * 2)

    def test_by_keyword_and_again(self):
        answer = one_sign(INNER)
        before = deepcopy(vars(answer))
        first = answer(2, 3, (1,) * answer.count)
        answer(0, 0, (0,) * answer.count)
        self.assertEqual(answer(row=2, column=3, signs=(1,) * answer.count), first)
        self.assertEqual(vars(answer), before)


class Errors(unittest.TestCase):
    def test_matrices_that_break_a_rule(self):
        for matrix, row in MISFITS:
            error = raised(one_sign, matrix)
            self.assertIs(type(error), InvalidBits)
            self.assertEqual(error.row, row)
