"""Promises 20 and 44 to 46: peeling a table."""

import unittest
from random import Random

from fardials.mixtures import Mixture, mixture_table
from fardials.peel import peel
from fardials.plainshare import plain_share
from fardials.plans import plans
from fardials.shares import Share, is_share
from fardials.tables import Table, lies_below, plan_table
from tests.samples import (BOX, FULL_SHAPES, GREAT, ONE_HAND, SHAPES, SQUARE, any_table, context_list,
                           full_table, outcome_list, quiet_table, summed_table, weighted_plans)


def peeled(table):
    """The pairs of a peeled table, counted entry by entry."""
    left = {(context, outcome): amount
            for context, row in zip(context_list(table.shape), table.rows)
            for outcome, amount in zip(outcome_list(table.shape), row)}
    pairs = []
    for plan in plans(table.shape):
        shown = [(context, tuple(plan[hand][dial] for hand, dial in enumerate(context)))
                 for context in context_list(table.shape)]
        weight = min(left[entry] for entry in shown)
        for entry in shown:
            left[entry] -= weight
        if weight:
            pairs.append((plan, weight))
    return tuple(pairs)


class PeelTest(unittest.TestCase):
    def same(self, table):
        """Tests the result, and what points 45 and 46 say of it."""
        found = peel(table)
        self.assertIs(type(found), Mixture)
        self.assertEqual(found.shape, table.shape)
        self.assertEqual(found.pairs, peeled(table))
        self.assertTrue(lies_below(mixture_table(found), table))
        left = table - mixture_table(found)
        for plan in plans(table.shape):
            self.assertFalse(lies_below(plan_table(table.shape, plan), left))
        share = plain_share(table)
        self.assertLessEqual(found.total * share.bottom, share.mixture.total)
        return found


class Peel(PeelTest):
    def test_one_hand(self):
        table = Table(((2, 2),), 5, [[3, 2], [1, 4]])
        self.assertEqual(self.same(table).pairs, ((((0, 0),), 1), (((0, 1),), 2), (((1, 1),), 2)))
        table = Table(ONE_HAND, 6, [[1, 2, 3], [4, 0, 2]])
        self.assertEqual(self.same(table).pairs,
                         ((((0, 0),), 1), (((1, 0),), 2), (((2, 0),), 1), (((2, 2),), 2)))

    def test_the_first_plans_are_taken_first(self):
        shape = ((1, 2), (2, 2))
        table = Table(shape, 4, [[1, 1, 1, 1], [1, 1, 1, 1]])
        self.assertEqual(self.same(table).pairs, tuple(
            (((left,), (right, right)), 1) for left in (0, 1) for right in (0, 1)))

    def test_peeling_need_not_find_the_greatest_share(self):
        # The table is that of a mixture of three plans, but peeling begins with another plan.
        table = summed_table(SQUARE, [(((0, 0), (1, 0)), 1), (((0, 1), (0, 0)), 1),
                                      (((1, 0), (0, 1)), 1)])
        self.assertEqual(self.same(table).pairs, ((((0, 0), (0, 0)), 1),))
        share = plain_share(table)
        self.assertEqual(share.mixture.total, 3 * share.bottom)

    def test_whole_0_and_tables_without_a_plan(self):
        for shape in SHAPES:
            self.assertEqual(self.same(Table.empty(shape)).pairs, ())
        self.assertEqual(self.same(BOX).pairs, ())

    def test_many_tables(self):
        for at, shape in enumerate(SHAPES):
            self.same(any_table(shape, at))
            self.same(full_table(shape, at))
            self.same(quiet_table(shape, at))

    def test_multiples_of_the_table_of_a_plan(self):
        for shape in [*SHAPES[:8], FULL_SHAPES[0]]:
            for plan in list(plans(shape))[::5]:
                for times in (1, 7, GREAT):
                    found = peel(times * plan_table(shape, plan))
                    self.assertEqual(found.pairs, ((plan, times),))

    def test_64_plans_and_great_amounts(self):
        for shape in FULL_SHAPES:
            self.same(full_table(shape, 3, GREAT))
            self.same(summed_table(shape, [(plan, GREAT) for plan in plans(shape)]))

    def test_a_share_bounds_the_result(self):
        chance = Random(4)
        for _ in range(20):
            mixture = Mixture(SQUARE, weighted_plans(SQUARE, chance.random()))
            table = mixture_table(mixture)
            share = Share(mixture, bottom=1, costs=[[1] * 4] + [[0] * 4] * 3)
            self.assertTrue(is_share(table, share))
            self.assertLessEqual(self.same(table).total, share.mixture.total)

    def test_the_table_is_not_changed_and_may_be_peeled_again(self):
        table = full_table(SQUARE, 5)
        rows = table.rows
        first = peel(table).pairs
        self.same(any_table(SQUARE, 6))
        self.assertEqual(table.rows, rows)
        self.assertEqual(peel(table).pairs, first)
