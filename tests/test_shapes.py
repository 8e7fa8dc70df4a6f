"""Promises 2 to 5 and 20: shapes, contexts and outcomes."""

import unittest

from fardials.errors import DialError, InvalidShape
from fardials.shapes import (check_shape, context_index, contexts, outcome_index, outcomes,
                             plan_count)
from tests.samples import (FULL_SHAPES, GREAT, SHAPES, all_shapes, context_list, counted_plans,
                           outcome_list)


class CheckShape(unittest.TestCase):
    def refuses(self, shape):
        with self.subTest(shape), self.assertRaises(InvalidShape) as caught:
            check_shape(shape)
        self.assertIsInstance(caught.exception, DialError)

    def test_shapes_in_range_are_valid_up_to_64_plans(self):
        for shape in all_shapes():
            if counted_plans(shape) <= 64:
                self.assertIsNone(check_shape(shape))
            else:
                self.refuses(shape)

    def test_64_plans_and_more(self):
        for shape in FULL_SHAPES:
            self.assertEqual(plan_count(shape), 64)
            self.assertIsNone(check_shape(shape))
        self.refuses(((1, 3), (1, 3), (3, 2)))  # 72 plans
        self.refuses(((4, 3),))  # 81 plans
        self.refuses(((1, 2), (2, 2), (4, 2)))  # 128 plans

    def test_number_of_hands(self):
        self.refuses(())
        self.refuses(((1, 2),) * 4)

    def test_number_of_dials(self):
        for dials in (0, -1, 5, -GREAT, GREAT):
            self.refuses(((dials, 2),))
            self.refuses(((1, 2), (dials, 2)))

    def test_number_of_signs(self):
        for signs in (0, 1, -2, 4, -GREAT, GREAT):
            self.refuses(((1, signs),))
            self.refuses(((1, signs), (1, 2)))

    def test_hands_that_are_no_pairs(self):
        for hand in ((), (2,), (2, 2, 2), 2):
            self.refuses((hand,))
            self.refuses(((1, 2), hand))
        self.refuses((2, 2))
        self.refuses([(2, 2)])


class PlanCount(unittest.TestCase):
    def test_product_of_powers(self):
        self.assertEqual(plan_count(((2, 3),)), 9)
        self.assertEqual(plan_count(((3, 2),)), 8)
        self.assertEqual(plan_count(((1, 3), (2, 2), (1, 2))), 24)

    def test_every_shape_also_above_64(self):
        for shape in all_shapes():
            self.assertEqual(plan_count(shape), counted_plans(shape))
        self.assertEqual(plan_count(((4, 3), (4, 3), (4, 3))), 3 ** 12)


class Lists(unittest.TestCase):
    def test_contexts_in_order(self):
        self.assertEqual(contexts(((3, 2),)), [(0,), (1,), (2,)])
        self.assertEqual(contexts(((2, 2), (1, 3))), [(0, 0), (1, 0)])
        self.assertEqual(contexts(((2, 2), (2, 2))), [(0, 0), (0, 1), (1, 0), (1, 1)])
        self.assertEqual(contexts(((1, 2), (2, 2), (1, 3))), [(0, 0, 0), (0, 1, 0)])

    def test_outcomes_in_order(self):
        self.assertEqual(outcomes(((1, 3),)), [(0,), (1,), (2,)])
        self.assertEqual(outcomes(((1, 2), (1, 3))),
                         [(0, 0), (0, 1), (0, 2), (1, 0), (1, 1), (1, 2)])

    def test_lists_of_many_shapes(self):
        for shape in SHAPES:
            with self.subTest(shape):
                self.assertEqual(contexts(shape), context_list(shape))
                self.assertEqual(outcomes(shape), outcome_list(shape))

    def test_indexes_are_those_of_the_lists(self):
        for shape in SHAPES:
            with self.subTest(shape):
                for index, context in enumerate(context_list(shape)):
                    self.assertEqual(context_index(shape, context), index)
                for index, outcome in enumerate(outcome_list(shape)):
                    self.assertEqual(outcome_index(shape, outcome), index)

    def test_lists_are_new_ones(self):
        shape = ((2, 2), (1, 3))
        contexts(shape).clear()
        outcomes(shape).append(7)
        self.assertEqual(contexts(shape), [(0, 0), (1, 0)])
        self.assertEqual(outcomes(shape), outcome_list(shape))
