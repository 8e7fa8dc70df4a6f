"""Promises 20 and 39 to 43: thin mixtures."""

import unittest
from math import gcd
from random import Random

from fardials.dependence import dependency
from fardials.mixtures import Mixture, mixture_table
from fardials.plans import plans
from fardials.short import places
from fardials.tables import Table, plan_table
from fardials.thin import entry_vector, is_thin, thin
from tests.samples import (BOX, FULL_SHAPES, GREAT, SHAPES, SQUARE, any_table, valid_shapes,
                           weighted_plans)

SHAPE = ((2, 2),)
ALL_FOUR = [(((0, 0),), 2), (((0, 1),), 1), (((1, 0),), 1), (((1, 1),), 3)]


def is_independent(shape, found):
    return dependency([entry_vector(plan_table(shape, plan)) for plan in found]) is None


class ThinTest(unittest.TestCase):
    def same(self, mixture):
        """Tests the conditions of point 40."""
        answer = thin(mixture)
        self.assertIs(type(answer), tuple)
        result, bottom = answer
        self.assertEqual(result.shape, mixture.shape)
        self.assertTrue(all(plan in mixture for plan, weight in result))
        self.assertTrue(is_independent(mixture.shape, [plan for plan, weight in result]))
        self.assertIs(is_thin(result), True)
        self.assertGreaterEqual(bottom, 1)
        self.assertEqual(mixture_table(result), mixture_table(mixture) * bottom)
        self.assertEqual(gcd(bottom, *[weight for plan, weight in result]), 1)
        self.assertLessEqual(len(result.pairs), len(places(mixture.shape)))
        again, one = thin(result)
        self.assertEqual((again.pairs, one), (result.pairs, 1))
        return result, bottom


class EntryVectors(unittest.TestCase):
    def test_rows_follow_each_other(self):
        table = Table(((2, 2), (1, 2)), 3, [[1, 0, 0, 2], [2, 0, 1, 0]])
        self.assertEqual(entry_vector(table), (1, 0, 0, 2, 2, 0, 1, 0))
        self.assertIs(type(entry_vector(table)), tuple)

    def test_many_shapes(self):
        for shape in SHAPES:
            table = any_table(shape, 1)
            self.assertEqual(entry_vector(table), sum(table.rows, ()))
        self.assertEqual(entry_vector(Table.empty(SQUARE)), (0,) * 16)
        self.assertEqual(entry_vector(BOX * GREAT), tuple(GREAT * number for number in sum(BOX.rows, ())))


class IsThin(unittest.TestCase):
    def test_without_pairs(self):
        self.assertIs(is_thin(Mixture(SQUARE, [])), True)

    def test_the_weights_do_not_count(self):
        self.assertIs(is_thin(Mixture(SHAPE, ALL_FOUR)), False)
        for at in range(4):
            kept = ALL_FOUR[:at] + ALL_FOUR[at + 1:]
            self.assertIs(is_thin(Mixture(SHAPE, kept)), True)
            self.assertIs(is_thin(Mixture(SHAPE, [(plan, GREAT) for plan, weight in kept])), True)

    def test_one_plan_of_each_shape(self):
        for shape in SHAPES:
            for plan in list(plans(shape))[::7]:
                self.assertIs(is_thin(Mixture(shape, [(plan, 3)])), True)

    def test_all_plans_are_thin_for_one_dial_each_alone(self):
        for shape in valid_shapes():
            mixture = Mixture(shape, [(plan, 1) for plan in plans(shape)])
            self.assertIs(is_thin(mixture), all(dials == 1 for dials, signs in shape))

    def test_random_mixtures(self):
        chance = Random(1)
        for shape in SHAPES:
            for _ in range(8):
                found = [plan for plan in plans(shape) if chance.random() < 0.25]
                mixture = Mixture(shape, [(plan, 1) for plan in found])
                self.assertIs(is_thin(mixture), is_independent(shape, found))


class Thin(ThinTest):
    def test_example(self):
        result, bottom = self.same(Mixture(SHAPE, ALL_FOUR))
        self.assertEqual(bottom, 1)
        self.assertIn(result.pairs, (((((0, 0),), 3), (((1, 1),), 4)),
                                     ((((0, 1),), 3), (((1, 0),), 3), (((1, 1),), 1))))

    def test_thin_mixtures_stay_as_they_are(self):
        for pairs in ([], ALL_FOUR[:1], ALL_FOUR[1:], [(plan, 6) for plan, weight in ALL_FOUR[:3]]):
            result, bottom = self.same(Mixture(SHAPE, pairs))
            self.assertEqual((result.pairs, bottom), (tuple(pairs), 1))
            self.assertIs(type(result), Mixture)

    def test_random_mixtures(self):
        for shape in SHAPES:
            for seed in range(4):
                self.same(Mixture(shape, weighted_plans(shape, seed)))

    def test_all_64_plans(self):
        for shape in FULL_SHAPES:
            self.same(Mixture(shape, [(plan, 7) for plan in plans(shape)]))
            self.same(Mixture(shape, [(plan, 1 + at) for at, plan in enumerate(plans(shape))]))

    def test_plans_that_a_dependency_counts_twice(self):
        # These six plans have one dependency, up to its sign: (1, -2, 0, 1, 1, -1).
        rows = [(0, 0, 0, 0), (0, 0, 1, 1), (0, 1, 0, 1), (0, 1, 1, 1), (1, 0, 1, 1), (1, 1, 0, 0)]
        mixture = Mixture(((4, 2),), [((row,), weight) for row, weight in zip(rows, (3, 1, 1, 3, 3, 1))])
        result, bottom = self.same(mixture)
        weights = {row: weight for (row,), weight in result}
        self.assertIn((bottom, weights), [
            (2, dict(zip([rows[0], *rows[2:]], (7, 2, 7, 7, 1)))),
            (1, {rows[1]: 7, rows[2]: 1, rows[5]: 4})])
        chance = Random(3)
        for _ in range(12):
            chosen = sorted(chance.sample(list(plans(FULL_SHAPES[0])), 40))
            self.same(Mixture(FULL_SHAPES[0], [(plan, chance.randrange(1, 50)) for plan in chosen]))

    def test_great_weights(self):
        chance = Random(2)
        for shape in (SHAPE, SQUARE, ((2, 3), (2, 2)), FULL_SHAPES[0]):
            for _ in range(3):
                pairs = [(plan, chance.randrange(1, GREAT)) for plan in plans(shape)]
                self.same(Mixture(shape, pairs))
            # The product of weights that the program has returned.
            self.same(Mixture(shape, [(plan, weight * weight) for plan, weight in pairs]))

    def test_the_mixture_is_not_changed(self):
        mixture = Mixture(SHAPE, ALL_FOUR)
        first, _ = thin(mixture)
        self.assertEqual(mixture.pairs, tuple(ALL_FOUR))
        self.same(Mixture(SQUARE, weighted_plans(SQUARE, 9)))
        again, _ = thin(mixture)
        self.assertEqual(again.pairs, first.pairs)
