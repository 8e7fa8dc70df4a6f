"""Promises 20 and 103 to 107: best plans and best halves of games."""

import unittest
from copy import deepcopy
from functools import cache

from fardials.errors import InvalidRating, WrongShape
from fardials.games import best_plans, half_best, plain_best
from fardials.halves import Half, all_halves, half_table
from fardials.mixtures import Mixture, mixture_table
from fardials.plans import plans
from fardials.ratings import rate_table
from fardials.tables import plan_table
from tests.samples import (BOX, FULL_SHAPES, GREAT, SHAPES, SQUARE, any_rating, context_list, great_rating,
                           misfits, outcome_list, quiet_table, raised, two_sign_table, valid_shapes,
                           weighted_plans)
from tests.test_halves import OTHERS, PAIR, SMALL, TWO_SIGNS, parts

CHAIN = [[1, 0, 0, 1], [1, 0, 0, 1], [1, 0, 0, 1], [0, 1, 1, 0]]


def zeros(shape):
    return [[0] * len(outcome_list(shape)) for _ in context_list(shape)]


def ratings_of(shape):
    """Ratings with few ties, with many ties, of zeros, below 0 and with great numbers."""
    small = any_rating(shape, 5)
    return [any_rating(shape, 1), any_rating(shape, 2), great_rating(shape, 3),
            [[number // 7 for number in row] for row in small],
            [[number % 2 for number in row] for row in small],
            [[-number % 3 - 5 for number in row] for row in small], zeros(shape)]


def rated_plans(shape, rating):
    """All plans with their rates, from the tables of the plans."""
    return [(plan, rate_table(rating, plan_table(shape, plan))) for plan in plans(shape)]


@cache
def half_rows(shape):
    """All halves in order, each with the amounts of its table."""
    return [(half, half_table(half).rows) for half in all_halves(shape)]


def walked(shape, rating):
    """The answer of half_best from a walk over all halves."""
    score, best = None, None
    for half, rows in half_rows(shape):
        rate = sum(number * amount for numbers, amounts in zip(rating, rows)
                   for number, amount in zip(numbers, amounts))
        if score is None or rate > score:
            score, best = rate, half
    return score, best


class BestPlans(unittest.TestCase):
    def same(self, shape, rating):
        rated = rated_plans(shape, rating)
        most = max(rate for plan, rate in rated)
        wanted = [plan for plan, rate in rated if rate == most]
        found = best_plans(shape, rating)
        self.assertIs(type(found), list)
        self.assertEqual(found, wanted)
        answer = plain_best(shape, rating)
        self.assertIs(type(answer), tuple)
        self.assertEqual(answer, (most, wanted[0]))
        return wanted

    def test_one_best_plan(self):
        rating = [[2, -1, 0, 5], [-7, 2, 4, 0]]
        self.assertEqual(best_plans(((2, 2), (1, 2)), rating), [((1, 0), (1,))])
        self.assertEqual(plain_best(((2, 2), (1, 2)), rating), (7, ((1, 0), (1,))))
        self.assertEqual(plain_best(((2, 3),), [[1, 5, 5], [-3, -2, -9]]), (3, ((1, 1),)))

    def test_several_best_plans_in_order(self):
        found = [((0, 0), (0, 0)), ((0, 0), (0, 1)), ((0, 1), (0, 0)), ((0, 1), (1, 0)),
                 ((1, 0), (0, 1)), ((1, 0), (1, 1)), ((1, 1), (1, 0)), ((1, 1), (1, 1))]
        self.assertEqual(self.same(SQUARE, CHAIN), found)
        self.assertEqual(plain_best(SQUARE, CHAIN), (3, ((0, 0), (0, 0))))

    def test_zeros_and_numbers_below_0(self):
        for shape in SHAPES:
            self.assertEqual(best_plans(shape, zeros(shape)), list(plans(shape)))
            rating = [[-2] * len(outcome_list(shape)) for _ in context_list(shape)]
            self.assertEqual(plain_best(shape, rating),
                             (-2 * len(rating), next(iter(plans(shape)))))
            self.assertEqual(best_plans(shape, rating), list(plans(shape)))

    def test_many_shapes(self):
        for shape in valid_shapes():
            for rating in ratings_of(shape):
                self.same(shape, rating)

    def test_rows_may_be_tuples_and_are_not_changed(self):
        rating = [list(row) for row in CHAIN]
        before = deepcopy(rating)
        for call in (plain_best, best_plans, half_best):
            first = call(SQUARE, rating)
            self.assertEqual(rating, before)
            second = call(SQUARE, tuple(map(tuple, rating)))
            if call is half_best:
                self.assertEqual((first[0], parts(first[1])), (second[0], parts(second[1])))
            else:
                self.assertEqual(first, second)

    def test_lists_are_new_ones(self):
        best_plans(SQUARE, CHAIN).clear()
        self.assertEqual(len(best_plans(SQUARE, CHAIN)), 8)

    def test_the_same_question_after_another_one(self):
        first = best_plans(SQUARE, CHAIN), plain_best(SQUARE, CHAIN)
        self.same(SQUARE, any_rating(SQUARE, 9))
        self.assertEqual((best_plans(SQUARE, CHAIN), plain_best(SQUARE, CHAIN)), first)


class Mixtures(unittest.TestCase):
    def test_mixtures_of_best_plans_and_of_other_plans(self):
        kinds = set()
        for shape in SHAPES:
            for seed, rating in enumerate(ratings_of(shape)):
                score, best = plain_best(shape, rating)[0], best_plans(shape, rating)
                chosen = weighted_plans(shape, seed)
                for pairs in (chosen, [pair for pair in chosen if pair[0] in best],
                              [(plan, 3) for plan in best], []):
                    mixture = Mixture(shape, pairs)
                    rate = rate_table(rating, mixture_table(mixture))
                    self.assertLessEqual(rate, mixture.total * score)
                    all_best = all(plan in best for plan, weight in pairs)
                    self.assertEqual(rate == mixture.total * score, all_best)
                    kinds.add((all_best, bool(pairs)))
        self.assertEqual(len(kinds), 3)


class HalfBest(unittest.TestCase):
    def same(self, shape, rating):
        answer = half_best(shape, rating)
        self.assertIs(type(answer), tuple)
        score, half = answer
        self.assertIs(type(half), Half)
        wanted, best = walked(shape, rating)
        self.assertEqual((score, parts(half)), (wanted, parts(best)))
        self.assertEqual(rate_table(rating, half_table(half)), score)
        self.assertGreaterEqual(score, 2 * plain_best(shape, rating)[0])
        return score, half

    def test_a_half_that_wins_more_than_each_plan(self):
        score, half = self.same(SQUARE, CHAIN)
        self.assertEqual((score, parts(half)), (8, (SQUARE, ((2, 2), (2, 2)), ((0, 0), (0, 1)))))
        self.assertEqual(2 * plain_best(SQUARE, CHAIN)[0], 6)
        rating = [[number * GREAT for number in row] for row in CHAIN]
        self.assertEqual(self.same(SQUARE, rating)[0], 8 * GREAT)

    def test_a_half_with_live_and_with_fixed_dials(self):
        # Hand 0 has a third dial, at which the sign 1 wins whatever hand 1 shows.
        shape = ((3, 2), (2, 2))
        score, half = self.same(shape, [*CHAIN, [0, 0, 5, 5], [0, 0, 5, 5]])
        self.assertEqual((score, half.states, half.kinds),
                         (28, ((2, 2, 1), (2, 2)), ((0, 0), (0, 1), (0, 0))))

    def test_a_half_and_a_plan_of_equal_rate(self):
        for shape in SMALL:
            score, half = self.same(shape, zeros(shape))
            plan = next(iter(plans(shape)))
            self.assertEqual((score, parts(half)), (0, parts(Half.fixed(shape, plan))))
            self.same(shape, [[-3] * 4 for _ in context_list(shape)])
        # Equal signs win: a live pair that is alike is as good as equal fixed signs.
        score, half = self.same(PAIR, [[4, 0, 0, 4]])
        self.assertEqual((score, half.states), (8, ((0,), (0,))))
        score, half = self.same(PAIR, [[0, 4, 4, 0]])
        self.assertEqual((score, half.states), (8, ((0,), (1,))))

    def test_equal_kinds_are_alike(self):
        # One dial of hand 0 makes all live pairs of the box as good as before.
        shape = ((3, 2), (2, 2))
        score, half = self.same(shape, [*CHAIN, [1, 1, 1, 1], [1, 1, 1, 1]])
        self.assertEqual(half.kinds, ((0, 0), (0, 1), (0, 0)))
        self.assertEqual(half.states[0][2], 0)
        # A live pair whose kind makes no difference: dial 2 of hand 1 is live for dial 0 of hand 0.
        shape = ((2, 2), (3, 2))
        for equal in ([0] * 4, [3] * 4, [-2] * 4):
            score, half = self.same(shape, [*CHAIN[:2], [9, 0, 0, 9], *CHAIN[2:], equal])
            self.assertEqual((half.states, half.kinds), (((2, 2), (2, 2, 2)), ((0, 0, 0), (0, 1, 0))))

    def test_a_walk_over_all_halves(self):
        for shape in SMALL:
            for rating in ratings_of(shape):
                self.same(shape, rating)
            for seed in range(20):
                self.same(shape, [[number // 6 for number in row] for row in any_rating(shape, seed)])
        for shape in TWO_SIGNS:
            for rating in ratings_of(shape)[2:5]:
                self.same(shape, rating)

    def test_quiet_tables_rate_no_more(self):
        for shape in TWO_SIGNS:
            for seed, rating in enumerate(ratings_of(shape)):
                score, half = half_best(shape, rating)
                for table in (two_sign_table(shape, seed), two_sign_table(shape, seed + 10, GREAT),
                              quiet_table(shape, seed)):
                    self.assertLessEqual(2 * rate_table(rating, table), table.whole * score)
                best = half_table(half)
                self.assertEqual(2 * rate_table(rating, best), best.whole * score)
        self.assertEqual(2 * rate_table(CHAIN, BOX), BOX.whole * 8)

    def test_the_same_question_after_another_one(self):
        first = half_best(SQUARE, CHAIN)
        self.same(SQUARE, any_rating(SQUARE, 4))
        second = half_best(SQUARE, CHAIN)
        self.assertEqual((first[0], parts(first[1])), (second[0], parts(second[1])))


class Errors(unittest.TestCase):
    def test_ratings_that_do_not_fit(self):
        for shape in (SQUARE, ((2, 3),), ((1, 3), (2, 2)), *FULL_SHAPES):
            for rating, row in misfits(shape):
                calls = [plain_best, best_plans]
                if shape in TWO_SIGNS:
                    calls.append(half_best)
                for call in calls:
                    error = raised(call, shape, rating)
                    self.assertIs(type(error), InvalidRating)
                    self.assertEqual(error.row, row)

    def test_other_shapes_ahead_of_wrong_ratings(self):
        for shape in OTHERS:
            for rating in (any_rating(shape, 1), [], [[]], misfits(shape)[-1][0]):
                self.assertIs(type(raised(half_best, shape, rating)), WrongShape)
