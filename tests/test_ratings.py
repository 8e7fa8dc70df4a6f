"""Promises 11 and 20: ratings."""

import unittest

from fardials.errors import InvalidPlan, InvalidRating
from fardials.plans import plan_outcome, plans
from fardials.ratings import check_rating, rate_plan, rate_table
from fardials.tables import Table, plan_table
from tests.samples import GREAT, SHAPES, any_rating, any_table, context_list, outcome_list

SHAPE = ((2, 2), (1, 2))
RATING = [[3, -1, 0, 5], [-7, 2, 4, 0]]
TABLE = Table(SHAPE, 3, [[1, 0, 0, 2], [2, 0, 1, 0]])

# Each rating that does not fit, with its attribute.
MISFITS = [
    ([], -1), ([[1, 2, 3, 4]], -1), ([[1, 2, 3, 4]] * 3, -1), ([[1, 2]] * 3, -1),
    ([[1, 2, 3], [1, 2, 3, 4]], 0), ([[1, 2, 3, 4], [1, 2, 3, 4, 5]], 1), ([[1, 2, 3, 4], []], 1),
    ([[1], [2]], 0), (([1, 2, 3, 4], (1, 2)), 1),
]


class CheckRating(unittest.TestCase):
    def test_ratings_that_fit(self):
        for shape in SHAPES:
            self.assertIsNone(check_rating(shape, any_rating(shape, 1)))
        self.assertIsNone(check_rating(SHAPE, ((1, 2, 3, 4), [-1, -2, -3, -4])))
        self.assertIsNone(check_rating(SHAPE, [[-GREAT] * 4, [GREAT] * 4]))

    def test_ratings_that_do_not_fit(self):
        for rating, at in MISFITS:
            for call in (lambda: check_rating(SHAPE, rating),
                         lambda: rate_plan(SHAPE, rating, ((0, 0), (0,))),
                         lambda: rate_table(rating, TABLE)):
                with self.subTest(rating), self.assertRaises(InvalidRating) as caught:
                    call()
                self.assertEqual(caught.exception.row, at)


class RatePlan(unittest.TestCase):
    def test_ordinary(self):
        self.assertEqual(rate_plan(SHAPE, RATING, ((0, 0), (0,))), 3 - 7)
        self.assertEqual(rate_plan(SHAPE, RATING, ((0, 1), (0,))), 3 + 4)
        self.assertEqual(rate_plan(SHAPE, RATING, ((1, 0), (1,))), 5 + 2)
        self.assertEqual(rate_plan(SHAPE, tuple(map(tuple, RATING)), ((1, 0), (1,))), 7)

    def test_great_numbers(self):
        rating = [[GREAT, 0, 0, 0], [GREAT, -GREAT, 0, 0]]
        self.assertEqual(rate_plan(SHAPE, rating, ((0, 0), (0,))), 2 * GREAT)
        self.assertEqual(rate_plan(SHAPE, rating, ((0, 0), (1,))), -GREAT)

    def test_many_shapes(self):
        for shape in SHAPES:
            rating = any_rating(shape, 2)
            for plan in plans(shape):
                score = sum(row[outcome_list(shape).index(plan_outcome(plan, context))]
                            for context, row in zip(context_list(shape), rating))
                self.assertEqual(rate_plan(shape, rating, plan), score)
                self.assertEqual(rate_table(rating, plan_table(shape, plan)), score)

    def test_invalid_plans(self):
        for plan in ((), ((0, 1),), ((0,), (1,)), ((0, 2), (1,)), ((0, 1), (-1,))):
            with self.assertRaises(InvalidPlan):
                rate_plan(SHAPE, RATING, plan)

    def test_invalid_rating_goes_ahead_of_invalid_plan(self):
        with self.assertRaises(InvalidRating) as caught:
            rate_plan(SHAPE, [[1, 2, 3, 4], []], ())
        self.assertEqual(caught.exception.row, 1)


class RateTable(unittest.TestCase):
    def test_ordinary(self):
        self.assertEqual(rate_table(RATING, TABLE), 3 + 10 - 14 + 4)
        self.assertEqual(rate_table(tuple(map(tuple, RATING)), TABLE), 3)
        self.assertEqual(rate_table(RATING, Table.empty(SHAPE)), 0)

    def test_great_numbers(self):
        rating = [[-GREAT, 0, 0, 0], [0, 0, 0, 0]]
        self.assertEqual(rate_table(rating, TABLE * GREAT), -GREAT * GREAT)

    def test_sums_and_products_of_tables(self):
        for shape in SHAPES:
            rating = any_rating(shape, 3)
            one, two = any_table(shape, 5), any_table(shape, 6)
            rate = rate_table(rating, one) + 4 * rate_table(rating, two)
            self.assertEqual(rate_table(rating, one + 4 * two), rate)

    def test_nothing_is_modified(self):
        rating = [list(row) for row in RATING]
        rate_table(rating, TABLE)
        rate_plan(SHAPE, rating, ((0, 0), (0,)))
        check_rating(SHAPE, rating)
        self.assertEqual(rating, RATING)
