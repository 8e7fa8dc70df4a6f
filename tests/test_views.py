"""Promises 20 to 24: views."""

import unittest
from itertools import combinations, permutations

from fardials.errors import WrongShape
from fardials.shapes import contexts, outcomes
from fardials.tables import Table
from fardials.telling import first_telling, group_amount
from fardials.views import left_out, reordered, restricted
from tests.samples import (GREAT, ONE_HAND, SHAPES, SQUARE, THREE_HANDS, any_table, quiet_table)

SHAPE = ((2, 2), (1, 2))
TABLE = Table(SHAPE, 3, [[1, 0, 0, 2], [2, 0, 1, 0]])


def choices(dials):
    return [chosen for many in range(1, dials + 1) for chosen in combinations(range(dials), many)]


def orders(shape):
    return list(permutations(range(len(shape))))


def all_views(shape):
    """Functions from a table of the shape to each of its views."""
    found = [lambda table, order=order: reordered(table, order) for order in orders(shape)]
    for hand, (dials, signs) in enumerate(shape):
        found += [lambda table, hand=hand, dials=chosen: restricted(table, hand, dials=dials)
                  for chosen in choices(dials)]
        if len(shape) > 1:
            found += [lambda table, hand=hand, dial=dial: left_out(table, hand, dial=dial)
                      for dial in range(dials)]
    return found


class Restricted(unittest.TestCase):
    def test_ordinary(self):
        view = restricted(TABLE, 0, dials=(1,))
        self.assertEqual(view, Table(((1, 2), (1, 2)), 3, [[2, 0, 1, 0]]))
        self.assertEqual(restricted(TABLE, 0, dials=(0, 1)), TABLE)
        self.assertEqual(restricted(TABLE, 1, dials=(0,)), TABLE)

    def test_dials_may_be_a_list_and_are_a_keyword(self):
        dials = [1]
        self.assertEqual(restricted(TABLE, 0, dials=dials).rows, ((2, 0, 1, 0),))
        self.assertEqual(dials, [1])
        with self.assertRaises(TypeError):
            restricted(TABLE, 0, (1,))

    def test_each_choice_at_each_hand(self):
        for shape in SHAPES:
            table = any_table(shape, 1)
            for hand, (dials, signs) in enumerate(shape):
                for chosen in choices(dials):
                    view = restricted(table, hand, dials=chosen)
                    wanted = [(len(chosen), signs) if k == hand else shape[k]
                              for k in range(len(shape))]
                    self.assertEqual((view.shape, view.whole), (tuple(wanted), table.whole))
                    for context in contexts(view.shape):
                        there = list(context)
                        there[hand] = chosen[context[hand]]
                        self.assertEqual(view[context], table[tuple(there)])

    def test_refused_dials(self):
        table = any_table(((3, 2), (2, 2)), 2)
        for dials in ((), (1, 0), (0, 2, 1), (0, 0), (1, 1, 2), (-1,), (-1, 0), (3,), (0, 3),
                      (0, GREAT), (-GREAT, 1), (0, 1, 2, 3)):
            for passed in (dials, list(dials)):
                with self.subTest(passed), self.assertRaises(WrongShape):
                    restricted(table, 0, dials=passed)
        with self.assertRaises(WrongShape):
            restricted(table, 1, dials=(0, 2))
        with self.assertRaises(WrongShape):
            restricted(any_table(ONE_HAND, 2), 0, dials=())


class Reordered(unittest.TestCase):
    def test_two_hands(self):
        view = reordered(Table(SHAPE, 3, [[1, 2, 0, 0], [2, 0, 1, 0]]), (1, 0))
        self.assertEqual(view, Table(((1, 2), (2, 2)), 3, [[1, 0, 2, 0], [2, 1, 0, 0]]))
        self.assertEqual(reordered(TABLE, (0, 1)), TABLE)
        self.assertEqual(reordered(TABLE, [1, 0]), reordered(TABLE, (1, 0)))

    def test_one_hand(self):
        table = any_table(ONE_HAND, 1)
        self.assertEqual(reordered(table, (0,)), table)

    def test_each_order(self):
        for shape in SHAPES:
            table = any_table(shape, 2)
            for order in orders(shape):
                view = reordered(table, order)
                self.assertEqual(view.shape, tuple(shape[hand] for hand in order))
                self.assertEqual(view.whole, table.whole)
                for context in contexts(table.shape):
                    for outcome in outcomes(table.shape):
                        amount = view.amount(tuple(context[hand] for hand in order),
                                             tuple(outcome[hand] for hand in order))
                        self.assertEqual(amount, table.amount(context, outcome))

    def test_one_order_after_another(self):
        table = any_table(THREE_HANDS, 3)
        for order in orders(THREE_HANDS):
            for then in orders(THREE_HANDS):
                both = tuple(order[hand] for hand in then)
                self.assertEqual(reordered(reordered(table, order), then), reordered(table, both))

    def test_refused_orders(self):
        for order in ((), (0,), (1,), (0, 0), (1, 1), (0, 2), (0, -1), (1, 2), (0, 1, 0), (0, 1, 2),
                      (0, 1, 1), (GREAT, 0)):
            for passed in (order, list(order)):
                with self.subTest(passed), self.assertRaises(WrongShape):
                    reordered(TABLE, passed)
        for order in ((), (1,), (0, 0), (-1,)):
            with self.assertRaises(WrongShape):
                reordered(any_table(ONE_HAND, 1), order)


class LeftOut(unittest.TestCase):
    def test_example(self):
        table = Table(SHAPE, 3, [[1, 0, 0, 2], [2, 0, 1, 0]])
        self.assertEqual(left_out(table, 0, dial=1), Table(((1, 2),), 3, [[3, 0]]))
        self.assertEqual(left_out(table, 0, 1), left_out(table, 0, dial=1))

    def test_dial_0_is_the_default(self):
        self.assertEqual(left_out(TABLE, 0), Table(((1, 2),), 3, [[1, 2]]))
        self.assertEqual(left_out(TABLE, 1), Table(((2, 2),), 3, [[1, 2], [2, 1]]))

    def test_the_hand_is_passed_by_position(self):
        with self.assertRaises(TypeError):
            left_out(TABLE, hand=0)

    def test_each_dial_of_each_hand(self):
        for shape in SHAPES:
            table = any_table(shape, 4)
            for hand, (dials, signs) in enumerate(shape):
                others = tuple(k for k in range(len(shape)) if k != hand)
                for dial in range(dials) if others else ():
                    view = left_out(table, hand, dial=dial)
                    self.assertEqual(view.shape, tuple(shape[k] for k in others))
                    self.assertEqual(view.whole, table.whole)
                    for context in contexts(view.shape):
                        there = context[:hand] + (dial,) + context[hand:]
                        row = [group_amount(table, others, there, outcome)
                               for outcome in outcomes(view.shape)]
                        self.assertEqual(view[context], tuple(row))

    def test_the_only_hand(self):
        for dial in range(2):
            with self.assertRaises(WrongShape):
                left_out(any_table(ONE_HAND, 1), 0, dial)


class LawsOfViews(unittest.TestCase):
    def test_sums_and_products(self):
        for shape in SHAPES:
            one, two = any_table(shape, 5), any_table(shape, 6, 11)
            for view in all_views(shape):
                self.assertEqual(view(one + two), view(one) + view(two))
                self.assertEqual(view(GREAT * one), GREAT * view(one))
                self.assertEqual(view(Table.empty(shape)).whole, 0)

    def test_views_of_quiet_tables_are_quiet(self):
        for shape in SHAPES:
            table = quiet_table(shape, 7)
            for view in all_views(shape):
                self.assertIsNone(first_telling(view(table)))

    def test_quiet_exactly_if_the_dial_that_is_left_out_makes_no_difference(self):
        for shape in SHAPES:
            if len(shape) > 1:
                for table in (quiet_table(shape, 8), any_table(shape, 8),
                              quiet_table(shape, 9) + any_table(shape, 9, 1)):
                    same = all(left_out(table, hand, dial) == left_out(table, hand)
                               for hand in range(len(shape)) for dial in range(shape[hand][0]))
                    self.assertEqual(first_telling(table) is None, same)

    def test_the_same_question_after_another_one(self):
        table = any_table(SQUARE, 10)
        once = [view(table).rows for view in all_views(SQUARE)]
        for view in all_views(SHAPE):
            view(TABLE)
        self.assertEqual([view(table).rows for view in all_views(SQUARE)], once)
        self.assertEqual(table, any_table(SQUARE, 10))
