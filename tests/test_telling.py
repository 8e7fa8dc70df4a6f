"""Promises 18, 19 and 20: amounts of groups, leaks and quiet tables."""

import unittest
from itertools import combinations, product

from fardials.errors import TellsAcross
from fardials.tables import Table
from fardials.telling import check_quiet, first_telling, group_amount, single
from tests.samples import (BOX, GREAT, ONE_HAND, SHAPES, SQUARE, any_table, context_list,
                           outcome_list, quiet_table)

SHAPE = ((2, 2), (1, 2))
LOUD = Table(SHAPE, 2, [[1, 1, 0, 0], [2, 0, 0, 0]])


def counted_amount(table, group, context):
    """The amount of the group, a dict of the hands and their signs."""
    row = table.rows[context_list(table.shape).index(context)]
    return sum(amount for outcome, amount in zip(outcome_list(table.shape), row)
               if all(outcome[hand] == sign for hand, sign in group.items()))


def changed(context, hand, dial):
    return context[:hand] + (dial,) + context[hand + 1:]


def other_groups(shape, hand):
    """For each choice of signs of the other hands, a dict of these hands and signs."""
    others = [other for other in range(len(shape)) if other != hand]
    return [dict(zip(others, signs)) for signs in product(*[range(shape[k][1]) for k in others])]


def leaks(table):
    """All leaks in order."""
    found = []
    for hand, (dials, signs) in enumerate(table.shape):
        for context in context_list(table.shape):
            for group in other_groups(table.shape, hand):
                silent = counted_amount(table, group, changed(context, hand, 0))
                if counted_amount(table, group, context) != silent:
                    found.append((hand, context, tuple(group.values())))
    return found


def some_hand_tells(table):
    """Whether two contexts that differ in one hand's dial show it to the others."""
    for hand, (dials, signs) in enumerate(table.shape):
        for context in context_list(table.shape):
            for dial in range(dials):
                for group in other_groups(table.shape, hand):
                    other = counted_amount(table, group, changed(context, hand, dial))
                    if counted_amount(table, group, context) != other:
                        return True
    return False


def all_tables(shape):
    """All tables of whole 1."""
    width = len(outcome_list(shape))
    units = [[int(k == at) for k in range(width)] for at in range(width)]
    for rows in product(units, repeat=len(context_list(shape))):
        yield Table(shape, 1, rows)


class GroupAmounts(unittest.TestCase):
    def test_none_some_and_all_hands(self):
        table = Table(SHAPE, 9, [[1, 2, 2, 4], [3, 0, 5, 1]])
        self.assertEqual(group_amount(table, (), (0, 0), ()), 9)
        self.assertEqual(group_amount(table, (0,), (0, 0), (1,)), 6)
        self.assertEqual(group_amount(table, (1,), (0, 0), (1,)), 6)
        self.assertEqual(group_amount(table, (0,), (1, 0), (0,)), 3)
        self.assertEqual(group_amount(table, (1,), (1, 0), (0,)), 8)
        self.assertEqual(group_amount(table, (0, 1), (1, 0), (1, 0)), 5)

    def test_every_group_of_many_shapes(self):
        for shape in SHAPES:
            table = any_table(shape, 1)
            hands = range(len(shape))
            for many in range(len(shape) + 1):
                for group in combinations(hands, many):
                    for signs in product(*[range(shape[hand][1]) for hand in group]):
                        for context in context_list(shape)[::3]:
                            wanted = counted_amount(table, dict(zip(group, signs)), context)
                            self.assertEqual(group_amount(table, group, context, signs), wanted)

    def test_whole_0_and_great_numbers(self):
        self.assertEqual(group_amount(Table.empty(SHAPE), (0,), (1, 0), (1,)), 0)
        table = Table(SHAPE, 9, [[1, 2, 2, 4], [3, 0, 5, 1]]) * GREAT * GREAT
        self.assertEqual(group_amount(table, (1,), (1, 0), (0,)), 8 * GREAT ** 2)


class Singles(unittest.TestCase):
    def test_one_hand(self):
        table = Table(ONE_HAND, 6, [[1, 2, 3], [4, 0, 2]])
        self.assertEqual(single(table, 0, 0), (1, 2, 3))
        self.assertEqual(single(table, 0, 1), (4, 0, 2))

    def test_other_dials_are_0(self):
        table = Table(SQUARE, 6, [[1, 2, 3, 0], [0, 6, 0, 0], [2, 0, 2, 2], [6, 0, 0, 0]])
        self.assertEqual(single(table, 0, 0), (3, 3))
        self.assertEqual(single(table, 0, 1), (2, 4))
        self.assertEqual(single(table, 1, 0), (4, 2))
        self.assertEqual(single(table, 1, 1), (0, 6))

    def test_many_shapes(self):
        for shape in SHAPES:
            table = any_table(shape, 2)
            for hand, (dials, signs) in enumerate(shape):
                for dial in range(dials):
                    context = changed((0,) * len(shape), hand, dial)
                    wanted = [counted_amount(table, {hand: sign}, context) for sign in range(signs)]
                    self.assertEqual(single(table, hand, dial), tuple(wanted))


class Leaks(unittest.TestCase):
    def same(self, table):
        found = leaks(table)
        first = found[0] if found else None
        self.assertEqual(first_telling(table), first)
        self.assertEqual(some_hand_tells(table), first is not None)
        if first is None:
            self.assertIsNone(check_quiet(table))
            return
        with self.assertRaises(TellsAcross) as caught:
            check_quiet(table)
        self.assertEqual(caught.exception.leak, first)

    def test_example(self):
        self.assertEqual(first_telling(LOUD), (0, (1, 0), (0,)))
        self.same(LOUD)

    def test_hand_1_tells_alone(self):
        table = Table(((1, 2), (3, 2)), 2, [[1, 1, 0, 0], [1, 1, 0, 0], [0, 1, 1, 0]])
        self.assertEqual(first_telling(table), (1, (0, 2), (0,)))

    def test_the_last_hand_tells_alone(self):
        shape = ((1, 2), (1, 3), (2, 2))
        table = Table(shape, 1, [[1] + [0] * 11, [0, 0, 1] + [0] * 9])
        self.assertEqual(first_telling(table), (2, (0, 0, 1), (0, 0)))
        table = Table(shape, 2, [[1, 1] + [0] * 10, [1, 0, 1] + [0] * 9])
        self.assertEqual(first_telling(table), (2, (0, 0, 1), (0, 0)))
        table = Table(shape, 2, [[1, 0, 1] + [0] * 9, [1] + [0] * 10 + [1]])
        self.assertEqual(first_telling(table), (2, (0, 0, 1), (0, 1)))

    def test_two_together_tell_what_no_one_tells_alone(self):
        # Hands 1 and 2 are alike at one dial of hand 0 and unlike at the other one.
        shape = ((2, 2), (1, 2), (1, 2))
        table = Table(shape, 2, [[1, 0, 0, 1, 0, 0, 0, 0], [0, 1, 1, 0, 0, 0, 0, 0]])
        self.assertEqual(first_telling(table), (0, (1, 0, 0), (0, 0)))

    def test_one_hand_is_quiet(self):
        for shape in SHAPES:
            if len(shape) == 1:
                self.assertIsNone(first_telling(any_table(shape, 3)))
                self.assertIsNone(check_quiet(any_table(shape, 3)))

    def test_quiet_tables(self):
        self.assertIsNone(first_telling(BOX))
        for shape in SHAPES:
            self.assertIsNone(first_telling(quiet_table(shape, 4)))
            self.assertIsNone(first_telling(Table.empty(shape)))
            self.same(quiet_table(shape, 5))

    def test_many_loud_tables(self):
        for shape in SHAPES:
            self.same(any_table(shape, 6))
            self.same(quiet_table(shape, 7) + any_table(shape, 8, 1))

    def test_all_tables_of_whole_1(self):
        for shape in (SHAPE, ((1, 2), (2, 2)), SQUARE, ((1, 2), (3, 2)), ((3, 2), (1, 2)),
                      ((2, 2), (1, 2), (1, 2)), ((1, 2), (2, 2), (1, 2)), ((1, 2), (1, 2), (2, 2))):
            for table in all_tables(shape):
                self.same(table)

    def test_great_numbers(self):
        great = BOX * GREAT
        self.assertIsNone(first_telling(great))
        unit = Table(SQUARE, 1, [[1, 0, 0, 0], [1, 0, 0, 0], [1, 0, 0, 0], [0, 1, 0, 0]])
        self.same(great + unit)
        self.assertEqual(first_telling(great + unit), (0, (1, 1), (0,)))

    def test_the_same_question_after_another_one(self):
        self.assertIsNone(first_telling(BOX))
        self.assertIsNotNone(first_telling(LOUD))
        self.assertIsNone(first_telling(BOX))
        self.assertEqual(first_telling(LOUD), (0, (1, 0), (0,)))
