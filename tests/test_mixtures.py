"""Promises 12 to 14 and 20: mixtures."""

import unittest
from inspect import isgenerator
from itertools import islice

from fardials.errors import InvalidMixture, InvalidShape
from fardials.mixtures import Mixture, draws, mixture_table
from fardials.plans import plans
from fardials.tables import Table, plan_table
from tests.samples import FULL_SHAPES, GREAT, SHAPES, SQUARE, summed_table, weighted_plans

SHAPE = ((2, 2), (1, 2))
LOW, MIDDLE, HIGH = ((0, 0), (1,)), ((0, 1), (0,)), ((1, 1), (1,))
NO_PLANS = [(), ((0, 0),), ((0,), (0,)), ((0, 0), (0,), (0,)), ((0, 0, 0), (0,)), ((0, 2), (0,)),
            ((0, 0), (-1,)), ((0, 0), (2,))]


class MixtureTest(unittest.TestCase):
    def refuses(self, at, pairs, make=Mixture):
        with self.subTest(pairs), self.assertRaises(InvalidMixture) as caught:
            make(SHAPE, pairs)
        self.assertEqual(caught.exception.at, at)


class NewMixtures(MixtureTest):
    def test_attributes(self):
        mixture = Mixture(SHAPE, [(LOW, 2), (MIDDLE, 1), (HIGH, 4)])
        self.assertEqual(mixture.shape, SHAPE)
        self.assertEqual(mixture.pairs, ((LOW, 2), (MIDDLE, 1), (HIGH, 4)))
        self.assertEqual(mixture.total, 7)

    def test_pairs_may_be_a_tuple(self):
        self.assertEqual(Mixture(SHAPE, ((LOW, 2), (HIGH, 1))).pairs, ((LOW, 2), (HIGH, 1)))

    def test_pairs_are_copied(self):
        pairs = [(LOW, 2), (HIGH, 1)]
        mixture = Mixture(SHAPE, pairs)
        pairs.clear()
        self.assertEqual(mixture.pairs, ((LOW, 2), (HIGH, 1)))
        self.assertEqual(mixture.total, 3)

    def test_without_pairs(self):
        for pairs in ([], ()):
            mixture = Mixture(SHAPE, pairs)
            self.assertEqual((mixture.pairs, mixture.total, list(mixture)), ((), 0, []))
            self.assertFalse(LOW in mixture)
            self.assertEqual(mixture_table(mixture), Table.empty(SHAPE))
            self.assertEqual(list(draws(mixture)), [])

    def test_iteration(self):
        mixture = Mixture(SHAPE, [(LOW, 2), (MIDDLE, 1)])
        self.assertEqual(list(mixture), [(LOW, 2), (MIDDLE, 1)])
        self.assertEqual(list(mixture), [(LOW, 2), (MIDDLE, 1)])

    def test_plan_in_mixture(self):
        mixture = Mixture(SHAPE, [(LOW, 2), (HIGH, 1)])
        self.assertEqual([plan in mixture for plan in (LOW, MIDDLE, HIGH)], [True, False, True])
        self.assertEqual([plan not in mixture for plan in (LOW, MIDDLE, HIGH)], [False, True, False])
        for shape in SHAPES:
            pairs = weighted_plans(shape, 1)
            many = Mixture(shape, pairs)
            for plan in plans(shape):
                self.assertEqual(plan in many, plan in dict(pairs))

    def test_great_weights(self):
        mixture = Mixture(SHAPE, [(LOW, GREAT), (HIGH, GREAT)])
        self.assertEqual(mixture.total, 2 * GREAT)
        self.assertEqual(mixture_table(mixture).whole, 2 * GREAT)

    def test_all_plans_of_shapes_of_64(self):
        for shape in FULL_SHAPES:
            mixture = Mixture(shape, [(plan, 1) for plan in plans(shape)])
            self.assertEqual(mixture.total, 64)
            self.assertEqual(len(mixture.pairs), 64)

    def test_no_plan_of_the_shape(self):
        for plan in NO_PLANS:
            self.refuses(0, [(plan, 1)])
            self.refuses(1, [(LOW, 1), (plan, 1)])

    def test_weight_below_1(self):
        for weight in (0, -1, -GREAT):
            self.refuses(0, [(LOW, weight), (HIGH, 1)])
            self.refuses(2, [(LOW, 1), (MIDDLE, 1), (HIGH, weight)])

    def test_plan_not_greater_than_the_one_before(self):
        self.refuses(1, [(LOW, 1), (LOW, 1)])
        self.refuses(1, [(HIGH, 1), (LOW, 1)])
        self.refuses(2, [(LOW, 1), (HIGH, 1), (MIDDLE, 1)])
        self.refuses(3, [(LOW, 1), (MIDDLE, 1), (HIGH, 1), (HIGH, 1)])

    def test_two_faults(self):
        self.refuses(1, [(LOW, 1), (LOW, 1), (HIGH, 0)])
        self.refuses(1, [(LOW, 1), (HIGH, 0), (LOW, 1)])
        self.refuses(0, [((), 1), (HIGH, 0)])
        self.refuses(0, [(HIGH, 0), ((), 1)])
        self.refuses(0, [((), 0)])

    def test_invalid_shape_goes_ahead(self):
        for shape in ((), ((0, 2),), ((4, 3),), ((GREAT, 2),)):
            for make in (Mixture, Mixture.gathered):
                for pairs in ([], [((), 0)], [((), -1)]):
                    with self.assertRaises(InvalidShape):
                        make(shape, pairs)


class Gathered(MixtureTest):
    def test_any_order(self):
        mixture = Mixture.gathered(SHAPE, [(HIGH, 4), (LOW, 2), (MIDDLE, 1)])
        self.assertIsInstance(mixture, Mixture)
        self.assertEqual(mixture.shape, SHAPE)
        self.assertEqual(mixture.pairs, ((LOW, 2), (MIDDLE, 1), (HIGH, 4)))

    def test_weights_of_equal_plans_are_added(self):
        pairs = [(HIGH, 4), (LOW, 2), (HIGH, 1), (LOW, 0), (HIGH, GREAT)]
        self.assertEqual(Mixture.gathered(SHAPE, pairs).pairs, ((LOW, 2), (HIGH, GREAT + 5)))
        self.assertEqual(Mixture.gathered(SHAPE, tuple(pairs)).pairs, ((LOW, 2), (HIGH, GREAT + 5)))
        self.assertEqual(pairs, [(HIGH, 4), (LOW, 2), (HIGH, 1), (LOW, 0), (HIGH, GREAT)])

    def test_weights_whose_sum_is_0(self):
        pairs = [(HIGH, 0), (LOW, 2), (HIGH, 0), (MIDDLE, 0)]
        self.assertEqual(Mixture.gathered(SHAPE, pairs).pairs, ((LOW, 2),))
        self.assertEqual(Mixture.gathered(SHAPE, [(HIGH, 0)]).pairs, ())
        self.assertEqual(Mixture.gathered(SHAPE, []).pairs, ())

    def test_gathered_refuses(self):
        for plan in NO_PLANS:
            self.refuses(0, [(plan, 1)], Mixture.gathered)
            self.refuses(2, [(HIGH, 1), (LOW, 0), (plan, 0)], Mixture.gathered)
        for weight in (-1, -GREAT):
            self.refuses(0, [(LOW, weight), (LOW, 5)], Mixture.gathered)
            self.refuses(2, [(HIGH, GREAT), (LOW, 1), (HIGH, weight)], Mixture.gathered)

    def test_gathered_with_two_faults(self):
        self.refuses(1, [(LOW, 1), (HIGH, -1), ((), 1)], Mixture.gathered)
        self.refuses(1, [(LOW, 1), ((), 1), (HIGH, -1)], Mixture.gathered)
        self.refuses(0, [((), -1)], Mixture.gathered)

    def test_many_shapes(self):
        for shape in SHAPES:
            pairs = weighted_plans(shape, 2)
            doubled = tuple([(plan, 2 * weight) for plan, weight in pairs])
            self.assertEqual(Mixture.gathered(shape, pairs[::-1] + pairs).pairs, doubled)


class TablesAndDraws(unittest.TestCase):
    def test_table(self):
        mixture = Mixture(SHAPE, [(LOW, 2), (MIDDLE, 1), (HIGH, 4)])
        table = Table(SHAPE, 7, [[1, 2, 0, 4], [0, 2, 1, 4]])
        self.assertEqual(mixture_table(mixture), table)
        self.assertEqual(mixture_table(Mixture(SHAPE, [(LOW, 3)])), plan_table(SHAPE, LOW) * 3)

    def test_tables_of_many_shapes(self):
        for shape in SHAPES:
            pairs = weighted_plans(shape, 3)
            mixture = Mixture(shape, pairs)
            table = mixture_table(mixture)
            self.assertEqual(table, summed_table(shape, pairs))
            self.assertEqual(table.whole, mixture.total)

    def test_the_same_question_after_another_one(self):
        first, second = Mixture(SHAPE, [(LOW, 1)]), Mixture(SQUARE, [(((0, 0), (1, 1)), 1)])
        once = mixture_table(first)
        mixture_table(second)
        self.assertEqual(mixture_table(first), once)

    def test_draws(self):
        mixture = Mixture(SHAPE, [(LOW, 2), (MIDDLE, 1), (HIGH, 3)])
        self.assertEqual(list(draws(mixture)), [LOW, LOW, MIDDLE, HIGH, HIGH, HIGH])
        self.assertTrue(isgenerator(draws(mixture)))

    def test_draws_of_many_shapes(self):
        for shape in SHAPES:
            mixture = Mixture(shape, weighted_plans(shape, 4))
            drawn = list(draws(mixture))
            self.assertEqual(drawn, sorted(drawn))
            self.assertEqual([(plan, drawn.count(plan)) for plan in sorted(set(drawn))],
                             list(mixture.pairs))

    def test_the_first_of_many_draws(self):
        mixture = Mixture(SHAPE, [(LOW, 1), (MIDDLE, GREAT)])
        self.assertEqual(list(islice(draws(mixture), 3)), [LOW, MIDDLE, MIDDLE])
