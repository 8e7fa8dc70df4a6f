"""Promises 3, 4, 6 and 20: plans."""

import unittest
from inspect import isgenerator
from itertools import product

from fardials.errors import InvalidPlan
from fardials.plans import check_plan, plan_outcome, plans
from fardials.shapes import plan_count
from tests.samples import GREAT, SHAPES, THREE_HANDS, context_list


class Plans(unittest.TestCase):
    def test_one_hand(self):
        self.assertEqual(list(plans(((2, 2),))),
                         [((0, 0),), ((0, 1),), ((1, 0),), ((1, 1),)])

    def test_two_hands(self):
        self.assertEqual(list(plans(((1, 2), (1, 3)))),
                         [((0,), (0,)), ((0,), (1,)), ((0,), (2,)),
                          ((1,), (0,)), ((1,), (1,)), ((1,), (2,))])

    def test_a_generator(self):
        self.assertTrue(isgenerator(plans(((1, 2),))))

    def test_all_plans_of_many_shapes_in_order(self):
        for shape in SHAPES:
            with self.subTest(shape):
                rows = [list(product(range(signs), repeat=dials)) for dials, signs in shape]
                self.assertEqual(list(plans(shape)), list(product(*rows)))
                self.assertEqual(len(list(plans(shape))), plan_count(shape))
                self.assertEqual(list(plans(shape)), sorted(plans(shape)))


class CheckPlan(unittest.TestCase):
    def refuses(self, shape, plan):
        with self.subTest(plan), self.assertRaises(InvalidPlan):
            check_plan(shape, plan)

    def test_every_plan_fits(self):
        for shape in SHAPES:
            for plan in plans(shape):
                self.assertIsNone(check_plan(shape, plan))

    def test_number_of_rows(self):
        self.refuses(((1, 2), (1, 2)), ())
        self.refuses(((1, 2), (1, 2)), ((0,),))
        self.refuses(((1, 2), (1, 2)), ((0,), (0,), (0,)))

    def test_number_of_signs_in_a_row(self):
        self.refuses(((2, 2), (1, 2)), ((0,), (0,)))
        self.refuses(((2, 2), (1, 2)), ((0, 0), ()))
        self.refuses(((2, 2), (1, 2)), ((0, 0), (0, 0)))
        self.refuses(((2, 2), (1, 2)), ((0,), (0, 0)))

    def test_range_of_a_sign(self):
        for sign in (-1, 2, 3, GREAT, -GREAT):
            self.refuses(((2, 2), (1, 3)), ((0, sign), (0,)))
        for sign in (-1, 3, GREAT):
            self.refuses(((2, 2), (1, 3)), ((0, 1), (sign,)))

    def test_each_hand_has_its_own_range(self):
        self.assertIsNone(check_plan(((2, 2), (1, 3)), ((1, 1), (2,))))
        self.refuses(((2, 2), (1, 3)), ((1, 2), (1,)))


class PlanOutcome(unittest.TestCase):
    def test_signs_at_the_dials_of_the_context(self):
        self.assertEqual(plan_outcome(((0, 1, 2),), (2,)), (2,))
        self.assertEqual(plan_outcome(((0, 1), (1, 0, 1)), (1, 1)), (1, 0))
        self.assertEqual(plan_outcome(((2,), (0, 1), (1,)), (0, 1, 0)), (2, 1, 1))

    def test_every_hand_at_every_context(self):
        for plan in plans(THREE_HANDS):
            for context in context_list(THREE_HANDS):
                shown = plan_outcome(plan, context)
                self.assertEqual(shown, tuple(plan[hand][dial] for hand, dial in enumerate(context)))
