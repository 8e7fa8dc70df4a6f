"""Promises 20 and 108 to 114: strongest boxes."""

import unittest
from copy import deepcopy
from random import Random

from fardials.boxbest import BoxBest, box_best, is_box_best
from fardials.errors import InvalidRating
from fardials.games import half_best, plain_best
from fardials.halves import all_halves, half_table
from fardials.plainshare import plain_share
from fardials.plans import plans
from fardials.ratings import rate_table
from fardials.short import short_form, short_rating
from fardials.tables import Table, plan_table
from fardials.telling import first_telling
from tests.samples import (BOX, FULL_SHAPES, GREAT, SHAPES, SQUARE, any_rating, any_table, context_list,
                           great_rating, misfits, outcome_list, quiet_table, raised, two_sign_table,
                           valid_shapes)
from tests.test_games import CHAIN, ratings_of, zeros
from tests.test_halves import SMALL, TWO_SIGNS

PRICES = [[0, 1, 1, 0], [0, 1, 1, 0], [0, 1, 1, 0], [1, 0, 0, 1]]
PAIR = ((1, 2), (1, 2))


def kept_conditions(shape, rating, found):
    """The conditions of point 109 that hold, told one by one."""
    table = found.table
    if table.shape != shape:
        return [False]
    paid = [[number * table.whole + price for number, price in zip(row, prices)]
            for row, prices in zip(rating, found.prices)]
    first, *others = short_rating(shape, paid)
    return [first_telling(table) is None, table.whole >= 1, rate_table(rating, table) == found.worth,
            min(min(row) for row in found.prices) >= 0, first == found.worth, max(others) <= 0]


def integers(found):
    rows = [*found.prices, *found.table.rows]
    return [found.worth, found.table.whole, *[number for row in rows for number in row]]


def changed(rows, at, column, by):
    rows = [list(row) for row in rows]
    rows[at][column] += by
    return rows


class BoxBests(unittest.TestCase):
    def test_attributes(self):
        prices = [list(row) for row in PRICES]
        found = BoxBest(BOX, 8, prices)
        prices[0][0] = 7
        prices.clear()
        self.assertIs(found.table, BOX)
        self.assertEqual(found.worth, 8)
        self.assertEqual(found.prices, tuple(map(tuple, PRICES)))
        self.assertEqual(vars(BoxBest(table=BOX, worth=8, prices=PRICES)), vars(found))

    def test_nothing_else_is_tested(self):
        for table in (BOX, any_table(SQUARE, 1), Table.empty(SQUARE)):
            for worth in (-GREAT, 0, 5):
                found = BoxBest(table, worth, [[-3] * 4 for _ in range(4)])
                self.assertEqual((found.table, found.worth), (table, worth))
                self.assertEqual(found.prices, ((-3,) * 4,) * 4)

    def test_prices_that_do_not_fit(self):
        for shape in SHAPES:
            for prices, row in misfits(shape):
                error = raised(BoxBest, Table.empty(shape), 0, prices)
                self.assertIs(type(error), InvalidRating)
                self.assertEqual(error.row, row)


class IsBoxBest(unittest.TestCase):
    def test_a_finding_that_keeps_all_conditions(self):
        # The rating rates the box 4 for each draw; a price of 1 for each lost entry shows it.
        prices = box_best(SQUARE, CHAIN).prices
        self.assertIs(is_box_best(SQUARE, CHAIN, BoxBest(BOX, 8, prices)), True)
        self.assertEqual(set(kept_conditions(SQUARE, CHAIN, BoxBest(BOX, 8, prices))), {True})
        found = BoxBest(BOX * GREAT, 8 * GREAT, [[price * GREAT for price in row] for row in prices])
        self.assertIs(is_box_best(SQUARE, CHAIN, found), True)
        self.assertIs(is_box_best(SQUARE, tuple(map(tuple, CHAIN)), found), True)

    def test_known_prices(self):
        # One dial for each hand: the rate is bounded by the greatest number alone.
        rating, table = [[5, 2, 1, 5]], Table(PAIR, 2, [[1, 0, 0, 1]])
        prices = [[0, 6, 8, 0]]
        self.assertIs(is_box_best(PAIR, rating, BoxBest(table, 10, prices)), True)
        self.assertIs(is_box_best(PAIR, rating, BoxBest(table, 10, [[0, 5, 8, 0]])), False)
        self.assertIs(is_box_best(PAIR, rating, BoxBest(table, 10, [[0, 6, 8, 1]])), False)
        self.assertIs(is_box_best(PAIR, rating, BoxBest(table, 10, [[0, 7, 8, 0]])), False)

    def test_each_condition_alone(self):
        rating, short = [[5, 2, 1, 5]], Table(PAIR, 1, [[1, 0, 0, 0]])
        # Another shape, also one with the same dials, contexts or places.
        right = BoxBest(short, 5, [[0, 3, 4, 0]])
        self.assertIs(is_box_best(PAIR, rating, right), True)
        one = BoxBest(Table(((1, 2),), 1, [[1, 0]]), 5, [[0, 0]])
        self.assertIs(is_box_best(((1, 2),), [[5, 5]], one), True)
        self.assertIs(is_box_best(PAIR, rating, one), False)
        self.assertIs(is_box_best(((1, 3),), [[5, 5, 5]], one), False)
        # A table that is not quiet, with everything else in order.
        loud = Table(SQUARE, 2, [[1, 0, 0, 1], [1, 0, 0, 1], [2, 0, 0, 0], [0, 1, 1, 0]])
        found = BoxBest(loud, 0, zeros(SQUARE))
        self.assertEqual(kept_conditions(SQUARE, zeros(SQUARE), found), [False] + [True] * 5)
        self.assertIs(is_box_best(SQUARE, zeros(SQUARE), found), False)
        # A whole of 0.
        found = BoxBest(Table.empty(PAIR), 0, [[0] * 4])
        self.assertEqual(kept_conditions(PAIR, rating, found), [True, False] + [True] * 4)
        self.assertIs(is_box_best(PAIR, rating, found), False)
        # A worth that is not the rate of the table: that of the rating with the prices is.
        found = BoxBest(Table(PAIR, 1, [[0, 1, 0, 0]]), 5, [[0, 3, 4, 0]])
        self.assertEqual(kept_conditions(PAIR, rating, found), [True, True, False, True, True, True])
        self.assertIs(is_box_best(PAIR, rating, found), False)
        # A price below 0. The rating with the prices gives the same numbers as a valid one.
        found = BoxBest(Table(PAIR, 1, [[0, 0, 0, 1]]), 1, [[-4, -1, 0, 0]])
        self.assertEqual(kept_conditions(PAIR, [[5, 2, 1, 1]], found), [True, True, True, False, True, True])
        self.assertIs(is_box_best(PAIR, [[5, 2, 1, 1]], found), False)
        # The first number of the short rating is not the worth.
        found = BoxBest(short, 5, [[1, 4, 5, 1]])
        self.assertEqual(kept_conditions(PAIR, rating, found), [True, True, True, True, False, True])
        self.assertIs(is_box_best(PAIR, rating, found), False)
        # Another number of it is above 0.
        found = BoxBest(Table(PAIR, 1, [[0, 0, 0, 1]]), 1, [[0, 0, 0, 0]])
        self.assertEqual(kept_conditions(PAIR, [[5, 1, 1, 1]], found), [True] * 5 + [False])
        self.assertIs(is_box_best(PAIR, [[5, 1, 1, 1]], found), False)

    def test_answers_changed_by_one_number(self):
        for shape in (PAIR, SQUARE, ((2, 3),), ((1, 3), (2, 2)), ((1, 2), (1, 2), (1, 2))):
            rating = any_rating(shape, 6)
            right = box_best(shape, rating)
            for by in (-1, 1):
                found = BoxBest(right.table, right.worth + by, right.prices)
                self.assertIs(is_box_best(shape, rating, found), False)
            for at, row in enumerate(right.prices):
                for column in range(len(row)):
                    for by in (-1, 1, GREAT):
                        found = BoxBest(right.table, right.worth, changed(right.prices, at, column, by))
                        wanted = all(kept_conditions(shape, rating, found))
                        self.assertIs(is_box_best(shape, rating, found), wanted)

    def test_other_tables(self):
        for shape in SMALL:
            rating = any_rating(shape, 2)
            prices = box_best(shape, rating).prices
            for half in list(all_halves(shape))[::3]:
                table = half_table(half)
                for found in (BoxBest(table, rate_table(rating, table), prices),
                              BoxBest(table, rate_table(rating, table), zeros(shape))):
                    wanted = all(kept_conditions(shape, rating, found))
                    self.assertIs(is_box_best(shape, rating, found), wanted)


class Bound(unittest.TestCase):
    def test_no_quiet_table_is_better(self):
        for shape in SHAPES:
            for seed, rating in enumerate(ratings_of(shape)):
                found = box_best(shape, rating)
                tables = [quiet_table(shape, seed), *[plan_table(shape, plan) for plan in plans(shape)]]
                if shape in TWO_SIGNS:
                    tables += [two_sign_table(shape, seed), two_sign_table(shape, seed, GREAT)]
                for table in tables:
                    self.assertIsNone(first_telling(table))
                    self.assertLessEqual(found.table.whole * rate_table(rating, table),
                                         found.worth * table.whole)

    def test_the_rate_by_the_short_form(self):
        rating, table = any_rating(SQUARE, 8), quiet_table(SQUARE, 3)
        self.assertEqual(sum(number * amount for number, amount
                             in zip(short_rating(SQUARE, rating), short_form(table))),
                         rate_table(rating, table))


class BoxBestAnswers(unittest.TestCase):
    def same(self, shape, rating):
        found = box_best(shape, rating)
        self.assertIs(type(found), BoxBest)
        self.assertIs(type(found.table), Table)
        self.assertEqual({type(row) for row in found.prices}, {tuple})
        self.assertEqual({type(number) for number in integers(found)}, {int})
        self.assertEqual(set(kept_conditions(shape, rating, found)), {True})
        self.assertIs(is_box_best(shape, rating, found), True)
        self.assertLess(max(abs(number) for number in integers(found)), 10 ** 100)
        return found

    def test_known_games(self):
        found = self.same(SQUARE, CHAIN)
        self.assertEqual(found.worth, 4 * found.table.whole)
        found = self.same(PAIR, [[5, 2, 1, 5]])
        self.assertEqual(found.worth, 5 * found.table.whole)
        found = self.same(((2, 3),), [[1, 5, 5], [-3, -2, -9]])
        self.assertEqual(found.worth, 3 * found.table.whole)
        # Three hands that are to be alike, except where all dials are 1.
        shape = ((2, 2), (2, 2), (2, 2))
        rating = [[int(sum(outcome) % 2 == (context == (1, 1, 1))) for outcome in outcome_list(shape)]
                  for context in context_list(shape)]
        self.assertEqual(plain_best(shape, rating)[0], 7)
        found = self.same(shape, rating)
        self.assertEqual(found.worth, 8 * found.table.whole)

    def test_every_shape(self):
        for shape in valid_shapes():
            for rating in ratings_of(shape):
                self.same(shape, rating)

    def test_no_plan_is_better_and_one_hand_has_plans_alone(self):
        for shape in SHAPES:
            for rating in ratings_of(shape):
                found, score = box_best(shape, rating), plain_best(shape, rating)[0]
                self.assertGreaterEqual(found.worth, score * found.table.whole)
                if len(shape) == 1 or max(dials for dials, signs in shape) == 1:
                    self.assertEqual(found.worth, score * found.table.whole)

    def test_zeros_and_equal_numbers(self):
        for shape in SHAPES:
            self.assertEqual(self.same(shape, zeros(shape)).worth, 0)
            for number in (-7, 3, -GREAT):
                rating = [[number] * len(row) for row in zeros(shape)]
                found = self.same(shape, rating)
                self.assertEqual(found.worth, number * len(rating) * found.table.whole)

    def test_great_numbers(self):
        for shape in (*FULL_SHAPES, ((1, 3), (1, 3), (2, 2)), ((2, 3), (1, 2), (1, 3)), ((2, 3), (2, 2))):
            for seed in range(3):
                self.same(shape, great_rating(shape, seed))
            chance = Random(str(shape))
            for _ in range(3):
                self.same(shape, [[chance.choice((-GREAT, GREAT)) for _ in row] for row in zeros(shape)])
                self.same(shape, [[10 ** chance.randrange(30) for _ in row] for row in zeros(shape)])

    def test_two_hands_with_two_signs_have_best_halves(self):
        for shape in TWO_SIGNS:
            for rating in [*ratings_of(shape), *[any_rating(shape, seed) for seed in range(10, 16)]]:
                found, score = box_best(shape, rating), half_best(shape, rating)[0]
                self.assertEqual(2 * found.worth, score * found.table.whole)

    def test_a_share_bounds_the_rate(self):
        tables = [BOX, BOX * GREAT, *[two_sign_table(shape, 3) for shape in SMALL],
                  *[quiet_table(shape, 1) for shape in SHAPES if shape not in FULL_SHAPES]]
        for table in tables:
            share = plain_share(table)
            total, bottom, whole = share.mixture.total, share.bottom, table.whole
            for rating in ratings_of(table.shape):
                found, score = box_best(table.shape, rating), plain_best(table.shape, rating)[0]
                most = found.table.whole
                self.assertLessEqual(rate_table(rating, table) * bottom * most,
                                     total * score * most + (bottom * whole - total) * found.worth)

    def test_arguments_are_not_changed(self):
        rating = [list(row) for row in CHAIN]
        before = deepcopy(rating)
        found = box_best(SQUARE, rating)
        is_box_best(SQUARE, rating, found)
        self.assertEqual(rating, before)

    def test_the_same_question_after_another_one(self):
        first = box_best(SQUARE, CHAIN)
        self.same(SQUARE, any_rating(SQUARE, 3))
        again = box_best(SQUARE, tuple(map(tuple, CHAIN)))
        self.assertEqual(integers(again), integers(first))


class Errors(unittest.TestCase):
    def test_ratings_that_do_not_fit(self):
        for shape in (SQUARE, ((2, 3),), ((1, 3), (2, 2)), ((1, 2), (1, 2), (1, 2)), FULL_SHAPES[0]):
            # The rating is tested ahead of a finding for another shape.
            for table in (Table.empty(shape), Table.empty(((1, 2), (1, 3)))):
                found = BoxBest(table, 0, zeros(table.shape))
                for rating, row in misfits(shape):
                    for error in (raised(box_best, shape, rating), raised(is_box_best, shape, rating, found)):
                        self.assertIs(type(error), InvalidRating)
                        self.assertEqual(error.row, row)
