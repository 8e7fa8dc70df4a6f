"""Promises 20 and 95 to 102: squares, half plans, split tables and corners."""

import unittest
from itertools import combinations, product

from fardials.corners import broken_square, half_plans, split_table, two_parts
from fardials.dependence import dependency
from fardials.errors import TellsAcross, WrongShape
from fardials.halves import Half, all_halves, half_table, halves
from fardials.mixtures import Mixture, mixture_table
from fardials.plans import plans
from fardials.short import entry_terms, places
from fardials.tables import Table, plan_table
from fardials.telling import first_telling
from tests.samples import (BOX, FULL_SHAPES, GREAT, SQUARE, any_table, context_list, outcome_list, raised,
                           two_sign_table, weighted_plans)
from tests.test_halves import OTHERS, PAIR, SHAPE, SMALL, TWO_SIGNS, parts, quiet_tables
from tests.test_stretches import EXAMPLE

LIVE = Half.LIVE


def live(shape, kinds):
    """The half in which every dial is live."""
    return Half(shape, [[LIVE] * dials for dials, signs in shape], kinds)


def broken_squares(half):
    left, right = half.live
    return [(*rows, *columns) for rows in combinations(left, 2) for columns in combinations(right, 2)
            if sum(half.kinds[x][y] for x in rows for y in columns) % 2]


def some_halves():
    for shape in SMALL:
        yield from all_halves(shape)
    for shape in TWO_SIGNS:
        yield from list(all_halves(shape))[::61]


def is_corner(table):
    """Whether all quiet tables that are 0 where this one is are its multiples.

    These tables are the points of a cone around the table. Its dimension is the number of places
    less the number of independent conditions that an amount is 0.
    """
    zeros = []
    many = len(places(table.shape))
    for context, row in zip(context_list(table.shape), table.rows):
        for outcome, amount in zip(outcome_list(table.shape), row):
            if amount == 0:
                terms = dict(entry_terms(table.shape, context, outcome))
                zeros.append(tuple(terms.get(at, 0) for at in range(many)))
    kept = []
    for vector in zeros:
        if dependency([*kept, vector]) is None:
            kept.append(vector)
    return table.whole > 0 and many - len(kept) == 1


def is_multiple(first, second):
    return second.whole * first == first.whole * second


class BrokenSquares(unittest.TestCase):
    def test_known_halves(self):
        for kinds, wanted in (([[0, 0], [0, 1]], (0, 1, 0, 1)), ([[1, 1], [0, 1]], (0, 1, 0, 1)),
                              ([[0, 0], [0, 0]], None), ([[1, 1], [1, 1]], None), ([[0, 1], [1, 0]], None)):
            self.assertEqual(broken_square(live(SQUARE, kinds)), wanted)
        self.assertIsNone(broken_square(live(PAIR, [[1]])))
        self.assertIsNone(broken_square(live(((1, 2), (4, 2)), [[1, 0, 0, 0]])))

    def test_the_first_square_counts(self):
        shape = ((3, 2), (3, 2))
        self.assertEqual(broken_square(live(shape, [[0, 0, 0], [0, 0, 0], [0, 0, 1]])), (0, 2, 0, 2))
        self.assertEqual(broken_square(live(shape, [[0, 0, 1], [0, 0, 0], [0, 0, 1]])), (0, 1, 0, 2))
        self.assertEqual(broken_square(live(shape, [[1, 0, 0], [1, 0, 0], [0, 0, 0]])), (0, 2, 0, 1))
        self.assertEqual(broken_square(Half(shape, [[2, 0, 2], [1, 2, 2]],
                                            [[0, 0, 1], [0, 0, 0], [0, 0, 0]])), (0, 2, 1, 2))
        self.assertEqual(broken_square(live(((2, 2), (4, 2)), [[0, 0, 0, 1], [0, 0, 0, 0]])), (0, 1, 0, 3))
        self.assertEqual(broken_square(live(((4, 2), (2, 2)), [[0, 1], [0, 1], [0, 1], [1, 1]])), (0, 3, 0, 1))

    def test_fixed_dials_have_no_square(self):
        self.assertIsNone(broken_square(Half(SQUARE, [[2, 2], [2, 0]], [[0, 0], [1, 0]])))
        self.assertIsNone(broken_square(Half(SQUARE, [[2, 1], [2, 2]], [[0, 1], [0, 0]])))
        self.assertIsNone(broken_square(Half.fixed(SQUARE, ((0, 1), (1, 1)))))

    def test_many_halves(self):
        broken = 0
        for half in some_halves():
            found = broken_squares(half)
            self.assertEqual(broken_square(half), found[0] if found else None)
            if found:
                broken += 1
                self.assertIs(type(broken_square(half)), tuple)
        self.assertGreater(broken, 50)


class HalfPlans(unittest.TestCase):
    def test_known_halves(self):
        for half, wanted in (
                (Half(SHAPE, [[2, 0], [2]], [[1], [0]]), (((0, 0), (1,)), ((1, 0), (0,)))),
                (Half(SHAPE, [[1, 2], [2]], [[0], [1]]), (((1, 0), (1,)), ((1, 1), (0,)))),
                (Half(SHAPE, [[2, 2], [2]], [[1], [0]]), (((0, 1), (1,)), ((1, 0), (0,)))),
                (Half(SHAPE, [[2, 2], [1]], [[0], [0]]), (((0, 0), (1,)), ((1, 1), (1,)))),
                (Half(SHAPE, [[1, 0], [2]], [[0], [0]]), (((1, 0), (0,)), ((1, 0), (1,)))),
                (Half(SHAPE, [[1, 0], [1]], [[0], [0]]), (((1, 0), (1,)), ((1, 0), (1,)))),
                (live(SQUARE, [[1, 0], [0, 1]]), (((0, 1), (1, 0)), ((1, 0), (0, 1)))),
                (live(SQUARE, [[0, 0], [0, 1]]), None)):
            self.assertEqual(half_plans(half), wanted)

    def test_many_halves(self):
        for half in some_halves():
            found = half_plans(half)
            inside = [plan for plan in plans(half.shape) if plan in half]
            if broken_squares(half):
                self.assertIsNone(found)
                self.assertEqual(inside, [])
                continue
            self.assertIs(type(found), tuple)
            first, second = found
            self.assertIn(first, inside)
            self.assertIn(second, inside)
            total = plan_table(half.shape, first) + plan_table(half.shape, second)
            self.assertEqual(total, half_table(half))
            left, right = half.live
            signs = [first[0][x] for x in left] + [first[1][y] for y in right]
            others = [second[0][x] for x in left] + [second[1][y] for y in right]
            self.assertEqual(others, [1 - sign for sign in signs])
            self.assertEqual(signs[:1], [0][:len(signs)])
            if not left or not right:
                self.assertEqual(set(signs) - {0}, set())
            if not signs:
                self.assertEqual(first, second)
            for x, y in product(left, right):
                self.assertEqual(first[0][x] ^ first[1][y], half.kinds[x][y])


class SplitTables(unittest.TestCase):
    def same(self, table):
        answer = split_table(table)
        self.assertIs(type(answer), tuple)
        mixture, broken = answer
        self.assertIs(type(mixture), Mixture)
        self.assertIs(type(broken), list)
        self.assertEqual(mixture.shape, table.shape)
        weights, kept = {}, []
        for half, count in halves(table):
            if broken_squares(half):
                kept.append((parts(half), count))
                continue
            for plan in half_plans(half):
                weights[plan] = weights.get(plan, 0) + count
        self.assertEqual(dict(mixture.pairs), weights)
        self.assertEqual([(parts(half), count) for half, count in broken], kept)
        self.assertEqual({type(item) for item in broken} | {tuple}, {tuple})
        total = mixture_table(mixture)
        for half, count in broken:
            total = total + count * half_table(half)
        self.assertEqual(total, 2 * table)
        return mixture, broken

    def test_known_tables(self):
        mixture, broken = self.same(BOX)
        self.assertEqual((mixture.pairs, len(broken), broken[0][1]), ((), 1, 2))
        mixture, broken = self.same(plan_table(SQUARE, ((0, 1), (1, 1))) * 3)
        self.assertEqual((mixture.pairs, broken), (((((0, 1), (1, 1)), 6),), []))
        mixture, broken = self.same(Table(PAIR, 3, [[1, 1, 0, 1]]))
        self.assertEqual((mixture.pairs, broken), (
            ((((0,), (0,)), 2), (((0,), (1,)), 2), (((1,), (1,)), 2)), []))
        mixture, broken = self.same(EXAMPLE)
        self.assertEqual([count for half, count in broken], [2])

    def test_many_tables(self):
        found = [len(self.same(table)[1]) for table in quiet_tables(10)]
        self.assertGreater(max(found), 1)
        for shape in TWO_SIGNS:
            self.same(mixture_table(Mixture(shape, weighted_plans(shape, 2))))

    def test_whole_0_and_great_wholes(self):
        for shape in TWO_SIGNS:
            mixture, broken = self.same(Table.empty(shape))
            self.assertEqual((mixture.pairs, broken), ((), []))
            self.same(two_sign_table(shape, 3, GREAT) * GREAT)

    def test_lists_are_new_ones(self):
        split_table(BOX)[1].clear()
        self.assertEqual(len(split_table(BOX)[1]), 1)


class TwoParts(unittest.TestCase):
    def same(self, table):
        """Tests points 101 and 102, and returns whether the table is a corner."""
        runs = halves(table)
        corner = is_corner(table)
        self.assertEqual(corner, len(runs) == 1 and (not any(runs[0][0].live)
                                                     or bool(broken_squares(runs[0][0]))))
        found = two_parts(table)
        if corner or table.whole == 0:
            self.assertIsNone(found)
            return corner
        self.assertIs(type(found), tuple)
        first, second = found
        for part in found:
            self.assertIs(type(part), Table)
            self.assertIsNone(first_telling(part))
        self.assertEqual(first + second, 2 * table)
        self.assertFalse(is_multiple(first, second))
        self.assertFalse(is_multiple(second, first))
        return corner

    def test_corners(self):
        self.assertTrue(self.same(BOX))
        self.assertTrue(self.same(BOX * GREAT))
        for shape in TWO_SIGNS:
            for plan in list(plans(shape))[::9]:
                self.assertTrue(self.same(plan_table(shape, plan)))
                self.assertTrue(self.same(plan_table(shape, plan) * 6))

    def test_tables_that_are_no_corners(self):
        for table in (EXAMPLE, BOX + plan_table(SQUARE, ((0, 0), (0, 0))), BOX * 3 + Table(SQUARE, 4, [[1] * 4] * 4),
                      Table(PAIR, 2, [[1, 0, 0, 1]]), Table(PAIR, 2, [[1, 1, 0, 0]]),
                      Table(PAIR, 4, [[1] * 4]), Table(PAIR, 3, [[1, 1, 0, 1]])):
            self.assertFalse(self.same(table))

    def test_the_table_of_each_half(self):
        corners = 0
        for half in some_halves():
            corners += self.same(half_table(half))
        self.assertGreater(corners, 100)

    def test_many_tables(self):
        for table in quiet_tables(8):
            self.same(table)
        for shape in SMALL:
            for half, other in zip(list(all_halves(shape))[::7], list(all_halves(shape))[3::7]):
                self.same(half_table(half) + half_table(other) * 2)

    def test_whole_0_and_great_wholes(self):
        for shape in TWO_SIGNS:
            self.assertIsNone(two_parts(Table.empty(shape)))
            self.same(two_sign_table(shape, 4, GREAT))
        self.same(two_sign_table(FULL_SHAPES[2], 5, GREAT) * GREAT)

    def test_the_same_question_after_another_one(self):
        first = two_parts(EXAMPLE)
        self.assertIsNone(two_parts(BOX))
        self.assertEqual(two_parts(EXAMPLE), first)


class Multiples(unittest.TestCase):
    def test_multiples_of_a_corner(self):
        self.assertTrue(is_multiple(BOX * 3, BOX * 7))
        self.assertFalse(is_multiple(BOX, BOX + plan_table(SQUARE, ((0, 0), (0, 0)))))


class Errors(unittest.TestCase):
    def test_other_shapes(self):
        for shape in OTHERS:
            for table in (Table.empty(shape), any_table(shape, 1)):
                self.assertIs(type(raised(split_table, table)), WrongShape)
                self.assertIs(type(raised(two_parts, table)), WrongShape)

    def test_tables_that_are_not_quiet(self):
        for shape in TWO_SIGNS:
            for seed in range(3):
                table = any_table(shape, seed)
                if first_telling(table) is None:
                    continue
                for call in (split_table, two_parts):
                    error = raised(call, table)
                    self.assertIs(type(error), TellsAcross)
                    self.assertEqual(error.leak, first_telling(table))
