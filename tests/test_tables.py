"""Promises 7 to 10 and 20: tables."""

import unittest

from fardials.errors import InvalidPlan, InvalidShape, InvalidTable, NotBelow, WrongShape
from fardials.plans import plan_outcome, plans
from fardials.shapes import context_index, contexts, outcome_index, outcomes
from fardials.tables import Table, lies_below, plan_table
from tests.samples import GREAT, SHAPES, any_table, context_list, outcome_list, summed_table

SHAPE = ((2, 2), (1, 2))


def table_of(whole, *rows):
    return Table(SHAPE, whole, rows)


class NewTables(unittest.TestCase):
    def refuses(self, at, whole, rows):
        with self.subTest((whole, rows)), self.assertRaises(InvalidTable) as caught:
            Table(SHAPE, whole, rows)
        self.assertEqual(caught.exception.row, at)

    def test_attributes(self):
        table = Table(SHAPE, 3, [[1, 0, 0, 2], [2, 0, 1, 0]])
        self.assertEqual(table.shape, SHAPE)
        self.assertEqual(table.whole, 3)
        self.assertEqual(table.rows, ((1, 0, 0, 2), (2, 0, 1, 0)))

    def test_rows_may_be_lists_and_tuples(self):
        wanted = ((1, 0, 0, 2), (2, 0, 1, 0))
        for rows in ([[1, 0, 0, 2], [2, 0, 1, 0]], ((1, 0, 0, 2), (2, 0, 1, 0)),
                     [(1, 0, 0, 2), [2, 0, 1, 0]], ([1, 0, 0, 2], (2, 0, 1, 0))):
            self.assertEqual(Table(SHAPE, 3, rows).rows, wanted)

    def test_rows_are_copied(self):
        rows = [[1, 0, 0, 2], [2, 0, 1, 0]]
        table = Table(SHAPE, 3, rows)
        rows[0][0] = 9
        rows.pop()
        self.assertEqual(table.rows, ((1, 0, 0, 2), (2, 0, 1, 0)))

    def test_rows_are_not_modified(self):
        rows = [[1, 0, 0, 2], [2, 0, 1, 0]]
        Table(SHAPE, 3, rows) + Table(SHAPE, 3, rows)
        self.assertEqual(rows, [[1, 0, 0, 2], [2, 0, 1, 0]])

    def test_one_two_and_three_hands(self):
        for shape in SHAPES:
            table = any_table(shape, 1)
            self.assertEqual(len(table.rows), len(contexts(shape)))
            self.assertEqual({len(row) for row in table.rows}, {len(outcomes(shape))})

    def test_whole_0(self):
        self.assertEqual(table_of(0, [0] * 4, [0] * 4).whole, 0)
        self.refuses(1, 0, [[0, 0, 0, 0], [0, 0, 0, 1]])

    def test_great_numbers(self):
        table = table_of(GREAT, [GREAT - 1, 1, 0, 0], [0, 0, 0, GREAT])
        self.assertEqual(table.amount((1, 0), (1, 1)), GREAT)
        self.refuses(1, GREAT, [[GREAT, 0, 0, 0], [GREAT, 0, 0, 1]])

    def test_whole_below_0(self):
        self.refuses(-1, -1, [[0, 0, 0, 0], [0, 0, 0, 0]])
        self.refuses(-1, -1, [[-1, 0, 0, 0], [-1, 0, 0, 0]])

    def test_number_of_rows(self):
        self.refuses(-1, 1, [])
        self.refuses(-1, 1, [[1, 0, 0, 0]])
        self.refuses(-1, 1, [[1, 0, 0, 0]] * 3)

    def test_number_of_amounts(self):
        self.refuses(0, 1, [[1, 0, 0], [1, 0, 0, 0]])
        self.refuses(1, 1, [[1, 0, 0, 0], [1, 0, 0, 0, 0]])
        self.refuses(1, 0, [[0, 0, 0, 0], []])

    def test_amount_below_0(self):
        self.refuses(0, 1, [[2, -1, 0, 0], [1, 0, 0, 0]])
        self.refuses(1, 1, [[1, 0, 0, 0], [0, 0, 2, -1]])

    def test_sum_of_amounts(self):
        self.refuses(0, 2, [[1, 0, 0, 0], [1, 0, 1, 0]])
        self.refuses(1, 2, [[1, 0, 0, 1], [1, 1, 1, 0]])

    def test_two_faults(self):
        self.refuses(-1, -1, [[1, 0]])
        self.refuses(-1, 1, [[1, 0, 0]] * 3)
        self.refuses(0, 1, [[1, 1, 0, 0], [1, 0, 0]])
        self.refuses(0, 1, [[2, -1, 0, 0], [1, 0, 0]])
        self.refuses(0, 1, [[1, 0, 0], [2, -1, 0, 0]])

    def test_invalid_shape_goes_ahead(self):
        for shape in ((), ((0, 2),), ((4, 3),), ((GREAT, 2),)):
            with self.assertRaises(InvalidShape):
                Table(shape, -1, [])
            with self.assertRaises(InvalidShape):
                Table.empty(shape)

    def test_empty(self):
        for shape in SHAPES:
            table = Table.empty(shape)
            self.assertEqual((table.shape, table.whole), (shape, 0))
            zeros = (0,) * len(outcome_list(shape))
            self.assertEqual(table.rows, (zeros,) * len(context_list(shape)))


class ReadingTables(unittest.TestCase):
    def test_amounts_rows_and_iteration(self):
        for shape in SHAPES:
            table = any_table(shape, 2)
            self.assertEqual(list(table), list(table.rows))
            self.assertEqual([table[context] for context in contexts(shape)], list(table.rows))
            for context in contexts(shape):
                row = table.rows[context_index(shape, context)]
                for outcome in outcomes(shape):
                    amount = row[outcome_index(shape, outcome)]
                    self.assertEqual(table.amount(context, outcome), amount)

    def test_a_row_is_a_tuple(self):
        table = table_of(3, [1, 0, 0, 2], [2, 0, 1, 0])
        self.assertEqual(table[1, 0], (2, 0, 1, 0))
        self.assertEqual(table.amount((0, 0), (1, 1)), 2)
        self.assertEqual(table.amount((1, 0), (1, 0)), 1)

    def test_iterating_twice(self):
        table = table_of(3, [1, 0, 0, 2], [2, 0, 1, 0])
        pairs = [(row, other) for row in table for other in table]
        self.assertEqual(len(pairs), 4)


class Operators(unittest.TestCase):
    def setUp(self):
        self.first = table_of(3, [1, 0, 0, 2], [2, 0, 1, 0])
        self.second = table_of(1, [0, 0, 0, 1], [1, 0, 0, 0])
        self.other_shape = Table(((1, 2), (2, 2)), 1, [[1, 0, 0, 0], [1, 0, 0, 0]])

    def test_equality(self):
        self.assertTrue(self.first == table_of(3, (1, 0, 0, 2), (2, 0, 1, 0)))
        self.assertFalse(self.first != table_of(3, (1, 0, 0, 2), (2, 0, 1, 0)))
        self.assertFalse(self.first == table_of(3, [1, 0, 0, 2], [2, 0, 0, 1]))
        self.assertFalse(self.first == self.second)
        self.assertTrue(self.first != self.second)
        self.assertFalse(self.second == self.other_shape)
        self.assertFalse(self.first == 3)

    def test_shape_and_whole_count_in_equality(self):
        self.assertFalse(Table.empty(((1, 2), (2, 2))) == Table.empty(((2, 2), (1, 2))))
        self.assertFalse(Table.empty(((2, 2),)) == self.first * 0)
        self.assertFalse(self.first == self.first * 2)

    def test_sum(self):
        total = self.first + self.second
        self.assertEqual(total, table_of(4, [1, 0, 0, 3], [3, 0, 1, 0]))
        self.assertEqual(self.second + self.first, total)
        self.assertEqual(self.first, table_of(3, [1, 0, 0, 2], [2, 0, 1, 0]))

    def test_difference(self):
        self.assertEqual(self.first - self.second, table_of(2, [1, 0, 0, 1], [1, 0, 1, 0]))
        self.assertEqual(self.first - self.first, Table.empty(SHAPE))
        self.assertEqual(self.first - Table.empty(SHAPE), self.first)

    def test_product_on_either_side(self):
        wanted = table_of(6, [2, 0, 0, 4], [4, 0, 2, 0])
        self.assertEqual(self.first * 2, wanted)
        self.assertEqual(2 * self.first, wanted)
        self.assertEqual(self.first * 1, self.first)

    def test_product_by_0(self):
        self.assertEqual(self.first * 0, Table.empty(SHAPE))
        self.assertEqual(0 * self.first, Table.empty(SHAPE))

    def test_great_numbers(self):
        great = self.first * GREAT * GREAT
        self.assertEqual(great.whole, 3 * GREAT ** 2)
        self.assertEqual(great.rows[0], (GREAT ** 2, 0, 0, 2 * GREAT ** 2))
        self.assertEqual(great - self.first * (GREAT ** 2 - 1), self.first)
        self.assertTrue(lies_below(great, great + self.second))
        self.assertFalse(lies_below(great + self.second, great))

    def test_laws_for_many_shapes(self):
        for shape in SHAPES:
            one, two = any_table(shape, 3), any_table(shape, 4, 23)
            total = one + two
            self.assertEqual(total.whole, 73)
            for context in contexts(shape):
                for outcome in outcomes(shape):
                    amount = one.amount(context, outcome) + two.amount(context, outcome)
                    self.assertEqual(total.amount(context, outcome), amount)
            self.assertEqual(total - one, two)
            self.assertEqual(one + one + one, 3 * one)

    def test_difference_of_tables_that_do_not_lie_below(self):
        with self.assertRaises(NotBelow):
            self.second - self.first
        with self.assertRaises(NotBelow):
            self.first - table_of(1, [0, 1, 0, 0], [1, 0, 0, 0])
        with self.assertRaises(NotBelow):
            self.first - table_of(1, [1, 0, 0, 0], [0, 0, 0, 1])

    def test_wrong_shapes(self):
        with self.assertRaises(WrongShape):
            self.first + self.other_shape
        with self.assertRaises(WrongShape):
            self.first - self.other_shape
        with self.assertRaises(WrongShape):
            lies_below(self.other_shape, self.first)
        # Not below, too, if only the rows counted: the shapes are tested first.
        with self.assertRaises(WrongShape):
            self.other_shape - self.first
        with self.assertRaises(WrongShape):
            self.second - Table(((2, 2), (1, 3)), 9, [[9, 0, 0, 0, 0, 0]] * 2)

    def test_what_is_no_table_or_no_integer(self):
        for call in (lambda: self.first + 3, lambda: 3 + self.first, lambda: self.first - 3,
                     lambda: self.first * self.second, lambda: "ab" * self.first):
            with self.assertRaises(TypeError):
                call()

    def test_lies_below(self):
        self.assertIs(lies_below(self.second, self.first), True)
        self.assertIs(lies_below(self.first, self.second), False)
        self.assertIs(lies_below(self.first, self.first), True)
        self.assertIs(lies_below(Table.empty(SHAPE), self.first), True)
        self.assertIs(lies_below(self.first, Table.empty(SHAPE)), False)
        last_only = table_of(3, [1, 0, 0, 2], [2, 0, 0, 1])
        self.assertIs(lies_below(last_only, self.first), False)
        self.assertIs(lies_below(self.first, last_only), False)


class TableOfAPlan(unittest.TestCase):
    def test_ordinary(self):
        self.assertEqual(plan_table(SHAPE, ((0, 1), (1,))), table_of(1, [0, 1, 0, 0], [0, 0, 0, 1]))

    def test_every_plan(self):
        for shape in SHAPES:
            for plan in plans(shape):
                table = plan_table(shape, plan)
                self.assertEqual(table, summed_table(shape, [(plan, 1)]))
                self.assertEqual(table.whole, 1)
                for context in contexts(shape):
                    self.assertEqual(table.amount(context, plan_outcome(plan, context)), 1)

    def test_invalid_plans(self):
        for plan in ((), ((0, 1),), ((0,), (1,)), ((0, 2), (1,)), ((0, 1), (-1,))):
            with self.assertRaises(InvalidPlan):
                plan_table(SHAPE, plan)
