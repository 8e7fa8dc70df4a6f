"""Promises 15 to 17 and 20: shares."""

import unittest
from fractions import Fraction
from itertools import product

from fardials.errors import InvalidRating, InvalidShare
from fardials.mixtures import Mixture, mixture_table
from fardials.plans import plans
from fardials.shares import Share, is_share
from fardials.tables import Table
from tests.samples import (BOX, FULL_SHAPES, GREAT, SHAPES, SQUARE, context_list, outcome_list,
                           weighted_plans)

# One hand with one dial: plan 0 and plan 1.
COIN = ((1, 2),)
HEADS, TAILS = ((0,),), ((1,),)
TABLE = Table(COIN, 3, [[1, 2]])

# The table, the costs and the mixture of the examples of squares.
LOST = [[0, 1, 1, 0], [0, 1, 1, 0], [0, 1, 1, 0], [1, 0, 0, 1]]
LOUDEST = Table(SQUARE, 5, [[4, 0, 0, 1], [4, 0, 0, 1], [4, 0, 0, 1], [3, 1, 1, 0]])
ZEROS = ((0, 0), (0, 0))


def coin_share(heads, tails, bottom, costs):
    mixture = Mixture.gathered(COIN, [(HEADS, heads), (TAILS, tails)])
    return Share(mixture, bottom=bottom, costs=costs)


def first_context_costs(shape, cost=1):
    """The cost at each outcome of the first context, and 0 elsewhere."""
    width = len(outcome_list(shape))
    return [[cost] * width] + [[0] * width] * (len(context_list(shape)) - 1)


class NewShares(unittest.TestCase):
    def test_attributes(self):
        mixture = Mixture(SQUARE, [(ZEROS, 3)])
        share = Share(mixture, bottom=2, costs=LOST)
        self.assertEqual(share.mixture.shape, SQUARE)
        self.assertEqual(share.mixture.pairs, ((ZEROS, 3),))
        self.assertEqual(share.bottom, 2)
        self.assertEqual(share.costs, tuple(map(tuple, LOST)))
        self.assertEqual(Share(mixture, costs=tuple(LOST), bottom=1).costs, share.costs)

    def test_costs_are_copied(self):
        costs = [[1, 1]]
        share = coin_share(1, 2, 1, costs)
        costs[0][0] = 5
        costs.append([7, 7])
        self.assertEqual(share.costs, ((1, 1),))
        self.assertTrue(is_share(TABLE, share))

    def test_bottom_and_costs_are_keywords(self):
        with self.assertRaises(TypeError):
            Share(Mixture(COIN, []), 1, [[1, 1]])

    def test_only_the_bottom_and_the_form_of_the_costs_are_tested(self):
        self.assertEqual(coin_share(9, 9, GREAT, [[-1, -GREAT]]).costs, ((-1, -GREAT),))

    def test_costs_that_do_not_fit(self):
        for bottom in (1, 0, -GREAT):
            for costs, row in (([], -1), ([[1, 1]] * 2, -1), ([[1]], 0), ([[1, 1, 1]], 0)):
                with self.subTest(costs), self.assertRaises(InvalidRating) as caught:
                    coin_share(1, 2, bottom, costs)
                self.assertEqual(caught.exception.row, row)
        with self.assertRaises(InvalidRating) as caught:
            Share(Mixture(SQUARE, []), bottom=1, costs=[*LOST[:2], [1, 2, 3], []])
        self.assertEqual(caught.exception.row, 2)

    def test_bottom_below_1(self):
        for bottom in (0, -1, -GREAT):
            with self.assertRaises(InvalidShare):
                coin_share(1, 2, bottom, [[1, 1]])


class IsShare(unittest.TestCase):
    def holds(self, table, share):
        self.assertIs(is_share(table, share), True)

    def fails(self, table, share):
        self.assertIs(is_share(table, share), False)

    def test_shares(self):
        self.holds(TABLE, coin_share(1, 2, 1, [[1, 1]]))
        self.holds(TABLE, coin_share(4, 8, 4, [[4, 4]]))
        self.holds(LOUDEST, Share(Mixture(SQUARE, [(ZEROS, 3)]), bottom=1, costs=LOST))

    def test_share_without_pairs(self):
        self.holds(BOX, Share(Mixture(SQUARE, []), bottom=1, costs=LOST))
        self.fails(LOUDEST, Share(Mixture(SQUARE, []), bottom=1, costs=LOST))
        self.holds(Table.empty(COIN), coin_share(0, 0, 1, [[1, 1]]))

    def test_a_cost_below_0_alone(self):
        table = Table(((2, 2),), 3, [[1, 2], [3, 0]])
        mixture = Mixture(((2, 2),), [(((0, 0),), 1), (((1, 0),), 2)])
        self.holds(table, Share(mixture, bottom=1, costs=[[0, 0], [1, 1]]))
        self.fails(table, Share(mixture, bottom=1, costs=[[-1, -1], [2, 2]]))
        self.fails(table, Share(mixture, bottom=1, costs=[[2, 2], [-1, -1]]))

    def test_a_mixture_above_the_table_alone(self):
        self.fails(TABLE, coin_share(2, 1, 1, [[1, 1]]))
        self.fails(TABLE, coin_share(4, 5, 3, [[3, 3]]))

    def test_a_plan_below_the_bottom_alone(self):
        self.fails(TABLE, coin_share(1, 0, 1, [[1, 0]]))
        self.fails(TABLE, coin_share(0, 2, 1, [[0, 1]]))
        self.fails(TABLE, coin_share(1, 2, 2, [[1, 1]]))

    def test_another_total_alone(self):
        self.fails(TABLE, coin_share(1, 0, 1, [[1, 1]]))
        self.fails(TABLE, coin_share(1, 2, 1, [[1, 2]]))

    def test_another_shape(self):
        share = Share(Mixture(((2, 2), (1, 2)), []), bottom=1, costs=[[1, 1, 1, 1], [0, 0, 0, 0]])
        self.holds(Table.empty(((2, 2), (1, 2))), share)
        self.fails(Table.empty(((1, 2), (2, 2))), share)
        self.fails(TABLE, share)

    def test_great_numbers(self):
        great = coin_share(GREAT, 2 * GREAT, 1, [[1, 1]])
        self.holds(TABLE * GREAT, great)
        self.fails(TABLE * (GREAT - 1), great)
        self.holds(TABLE, coin_share(GREAT, 2 * GREAT, GREAT, [[GREAT, GREAT]]))
        self.fails(TABLE, coin_share(GREAT, 2 * GREAT, GREAT, [[GREAT, GREAT - 1]]))

    def test_tables_of_mixtures(self):
        for shape in SHAPES:
            mixture = Mixture(shape, weighted_plans(shape, 1))
            share = Share(mixture, bottom=1, costs=first_context_costs(shape))
            self.holds(mixture_table(mixture), share)
            self.fails(mixture_table(mixture),
                       Share(mixture, bottom=1, costs=first_context_costs(shape, 2)))

    def test_all_64_plans(self):
        for shape in FULL_SHAPES:
            mixture = Mixture(shape, [(plan, 5) for plan in plans(shape)])
            table = Table(shape, 320, mixture_table(mixture).rows)
            self.holds(table, Share(mixture, bottom=1, costs=first_context_costs(shape)))

    def test_each_plan_counts(self):
        for paid in plans(SQUARE):
            mixture = Mixture(SQUARE, [])
            rows = [[1] * 4 for _ in range(4)]
            for row, context in zip(rows, context_list(SQUARE)):
                shown = tuple(paid[hand][dial] for hand, dial in enumerate(context))
                row[outcome_list(SQUARE).index(shown)] = 0
            # This plan alone pays nothing.
            self.fails(Table.empty(SQUARE), Share(mixture, bottom=1, costs=rows))

    def test_the_fraction_of_all_shares_is_the_same(self):
        found = []
        for heads, tails, bottom, low, high in product(range(5), range(5), (1, 2), range(3), range(3)):
            share = coin_share(heads, tails, bottom, [[low, high]])
            conditions = (heads <= bottom and tails <= 2 * bottom and min(low, high) >= bottom
                          and low + 2 * high == heads + tails)
            self.assertIs(is_share(TABLE, share), conditions)
            if conditions:
                found.append(Fraction(share.mixture.total, bottom))
        self.assertEqual(found, [3, 3])
