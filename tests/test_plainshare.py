"""Promises 20 and 62 to 64: the greatest plain share of any table."""

import unittest
from fractions import Fraction
from math import gcd

from fardials.mixtures import Mixture, mixture_table
from fardials.plainshare import plain_share
from fardials.plans import plans
from fardials.shares import Share, is_share
from fardials.tables import Table, lies_below, plan_table
from tests.samples import (BOX, FULL_SHAPES, GREAT, ONE_HAND, SHAPES, SQUARE, THREE_HANDS, any_table,
                           context_list, full_table, outcome_list, quiet_table, summed_table,
                           valid_shapes, weighted_plans)

LOUDEST = Table(SQUARE, 5, [[4, 0, 0, 1], [4, 0, 0, 1], [4, 0, 0, 1], [3, 1, 1, 0]])


def conditions(table, share):
    """The four conditions of point 15, counted entry by entry."""
    costs = {(context, outcome): cost for context, row in zip(context_list(table.shape), share.costs)
             for outcome, cost in zip(outcome_list(table.shape), row)}
    paid = [sum(costs[context, tuple(plan[hand][dial] for hand, dial in enumerate(context))]
                for context in context_list(table.shape)) for plan in plans(table.shape)]
    drawn = summed_table(table.shape, share.mixture.pairs)
    return [min(costs.values()) >= 0, min(paid) >= share.bottom,
            all(mine <= share.bottom * theirs for row, above in zip(drawn.rows, table.rows)
                for mine, theirs in zip(row, above)),
            sum(cost * amount for row, amounts in zip(share.costs, table.rows)
                for cost, amount in zip(row, amounts)) == drawn.whole]


class PlainShareTest(unittest.TestCase):
    def fraction(self, table):
        """Tests points 62 and 64, and returns the greatest plain share."""
        share = plain_share(table)
        self.assertIs(type(share), Share)
        self.assertEqual(share.mixture.shape, table.shape)
        self.assertEqual(conditions(table, share), [True] * 4)
        self.assertIs(is_share(table, share), True)
        numbers = [share.bottom, *[weight for plan, weight in share.mixture],
                   *[cost for row in share.costs for cost in row]]
        self.assertEqual(gcd(*numbers), 1)
        self.assertLessEqual(len(str(max(numbers))), len(str(table.whole)) + 100)
        total = share.mixture.total
        self.assertLessEqual(total, share.bottom * table.whole)
        if total == share.bottom * table.whole:
            self.assertEqual(mixture_table(share.mixture), table * share.bottom)
        blocked = [not lies_below(plan_table(table.shape, plan), GREAT * table)
                   for plan in plans(table.shape)]
        self.assertEqual(total == 0, all(blocked))
        return Fraction(total, share.bottom)


class PlainShare(PlainShareTest):
    def test_known_tables(self):
        self.assertEqual(self.fraction(BOX), 0)
        self.assertEqual(self.fraction(LOUDEST), 3)
        self.assertEqual(self.fraction(BOX + BOX + plan_table(SQUARE, ((0, 0), (0, 0)))), 1)
        noise = Table(SQUARE, 4, [[1] * 4] * 4)
        self.assertEqual(self.fraction(noise), 4)
        self.assertEqual(self.fraction(BOX + noise), 6)
        self.assertEqual(self.fraction(BOX * 2 + noise), 8)
        self.assertEqual(self.fraction(BOX * 3 + noise), 8)

    def test_tables_of_mixtures_are_shared_whole(self):
        for shape in SHAPES:
            for seed in range(2):
                mixture = Mixture(shape, weighted_plans(shape, seed))
                self.assertEqual(self.fraction(mixture_table(mixture)), mixture.total)

    def test_one_hand(self):
        for shape in (((1, 2),), ((4, 2),), ONE_HAND, ((3, 3),)):
            for seed in range(3):
                self.assertEqual(self.fraction(any_table(shape, seed)), 50)
                self.assertEqual(self.fraction(full_table(shape, seed)), 1000)

    def test_whole_0(self):
        for shape in valid_shapes():
            self.assertEqual(self.fraction(Table.empty(shape)), 0)

    def test_loud_tables(self):
        # Hand 0 tells the dial to hand 1, so one draw in two is shared at most.
        table = Table(((2, 2), (1, 2)), 2, [[2, 0, 0, 0], [1, 1, 0, 0]])
        self.assertEqual(self.fraction(table), 1)
        table = Table(((2, 2), (1, 2)), 2, [[2, 0, 0, 0], [0, 2, 0, 0]])
        self.assertEqual(self.fraction(table), 0)
        for at, shape in enumerate(SHAPES):
            self.fraction(any_table(shape, at))
            self.fraction(full_table(shape, at))

    def test_every_valid_shape(self):
        for at, shape in enumerate(valid_shapes()):
            self.fraction(full_table(shape, at, 97))

    def test_a_share_that_is_not_a_whole_number_of_draws(self):
        found = self.fraction(full_table(FULL_SHAPES[0], 19, 30))
        self.assertEqual(found.denominator, 2)
        self.assertEqual(self.fraction(full_table(FULL_SHAPES[0], 19, 30) * 2), 2 * found)

    def test_64_plans(self):
        for shape in FULL_SHAPES:
            every = summed_table(shape, [(plan, 1) for plan in plans(shape)])
            self.assertEqual(self.fraction(every), 64)
            for seed in range(3):
                self.fraction(full_table(shape, seed))
                self.fraction(quiet_table(shape, seed))

    def test_great_wholes(self):
        for shape in (SQUARE, THREE_HANDS, *FULL_SHAPES):
            self.fraction(full_table(shape, 1, GREAT))
            self.fraction(full_table(shape, 2, GREAT) * GREAT)
        self.assertEqual(self.fraction(LOUDEST * GREAT), 3 * GREAT)

    def test_multiples_and_the_same_question_again(self):
        for seed in range(6):
            table = full_table(SQUARE, seed)
            first = self.fraction(table)
            self.assertEqual(self.fraction(table * 6), 6 * first)
            self.assertEqual(self.fraction(table), first)

    def test_any_other_share_has_the_same_fraction(self):
        costs = [[0, 1, 1, 0], [0, 1, 1, 0], [0, 1, 1, 0], [1, 0, 0, 1]]
        share = Share(Mixture(SQUARE, [(((0, 0), (0, 0)), 3)]), bottom=1, costs=costs)
        self.assertTrue(is_share(LOUDEST, share))
        self.assertEqual(self.fraction(LOUDEST), Fraction(share.mixture.total, share.bottom))
