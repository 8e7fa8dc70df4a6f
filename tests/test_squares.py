"""Promises 20 and 77 to 86: ways, boxes, lost plans and corner forms."""

import unittest
from inspect import isgenerator
from itertools import combinations, product

from fardials.errors import InvalidWay, TellsAcross, WrongShape
from fardials.mixtures import Mixture, mixture_table
from fardials.plans import plan_outcome, plans
from fardials.shares import Share, is_share
from fardials.squares import (box, corner_form, excess, lost_entries, lost_plan, square_share, ways)
from fardials.stretches import gap
from fardials.tables import Table, plan_table
from fardials.telling import first_telling
from tests.samples import (BOX, GREAT, SHAPES, SQUARE, any_table, context_list, full_table, outcome_list,
                           raised, two_sign_table, weighted_plans)
from tests.test_plainshare import conditions
from tests.test_stretches import EXAMPLE, amounts

EIGHT = ((0, 0, 0, 1), (0, 0, 1, 0), (0, 1, 0, 0), (0, 1, 1, 1), (1, 0, 0, 0), (1, 0, 1, 1), (1, 1, 0, 1),
         (1, 1, 1, 0))
NO_WAYS = [(), (0,), (0, 0, 1), (0, 0, 0, 0), (1, 1, 0, 0), (1, 1, 1, 1), (0, 0, 0, 2), (0, 0, 0, -1),
           (3, 0, 0, 0), (1, 2, 0, 0), (0, 0, 0, 1, 0), (0, 0, 0, 0, 1), (0, 0, 0, GREAT)]
CONTEXTS = context_list(SQUARE)
OUTCOMES = outcome_list(SQUARE)


def is_kept(way, context, outcome):
    kind = way[CONTEXTS.index(context)]
    return (outcome[0] == outcome[1]) == (kind == 0)


def lost(way):
    return [(context, outcome) for context in CONTEXTS for outcome in OUTCOMES
            if not is_kept(way, context, outcome)]


def quiet_squares(count=40):
    for seed in range(count):
        yield two_sign_table(SQUARE, seed, seed)


def any_squares():
    for seed in range(12):
        yield any_table(SQUARE, seed)
        yield full_table(SQUARE, seed)


class Ways(unittest.TestCase):
    def test_all_in_order(self):
        self.assertEqual(ways(), EIGHT)
        self.assertIs(type(ways()), tuple)
        self.assertEqual({type(way) for way in ways()}, {tuple})

    def test_lost_entries(self):
        for way in EIGHT:
            self.assertEqual(list(lost_entries(way)), lost(way))
            self.assertEqual(len(lost(way)), 8)
        self.assertEqual(list(lost_entries((0, 0, 0, 1))),
                         [((0, 0), (0, 1)), ((0, 0), (1, 0)), ((0, 1), (0, 1)), ((0, 1), (1, 0)),
                          ((1, 0), (0, 1)), ((1, 0), (1, 0)), ((1, 1), (0, 0)), ((1, 1), (1, 1))])

    def test_lost_entries_are_generated(self):
        found = lost_entries((0, 0, 0, 1))
        self.assertTrue(isgenerator(found))
        self.assertEqual(next(found), ((0, 0), (0, 1)))
        self.assertEqual(next(lost_entries((1, 0, 0, 0))), ((0, 0), (0, 0)))
        self.assertEqual(len(list(found)), 7)
        self.assertEqual(list(found), [])
        self.assertEqual(list(lost_entries((0, 0, 0, 1))), lost((0, 0, 0, 1)))

    def test_boxes(self):
        self.assertEqual(box((0, 0, 0, 1)), BOX)
        for way in EIGHT:
            table = box(way)
            self.assertIs(type(table), Table)
            self.assertEqual((table.shape, table.whole), (SQUARE, 2))
            self.assertEqual(amounts(table), {(context, outcome): int(is_kept(way, context, outcome))
                                              for context in CONTEXTS for outcome in OUTCOMES})
            self.assertIsNone(first_telling(table))


class InvalidWays(unittest.TestCase):
    def test_each_function_refuses_them(self):
        for way in NO_WAYS:
            with self.subTest(way):
                calls = [lambda: list(lost_entries(way)), lambda: box(way), lambda: excess(BOX, way),
                         lambda: excess(any_table(SQUARE, 1), way),
                         *[lambda c=c, o=o: lost_plan(way, c, o) for c in CONTEXTS for o in OUTCOMES]]
                for call in calls:
                    self.assertIs(type(raised(call)), InvalidWay)

    def test_generators_refuse_when_their_iteration_starts(self):
        found = lost_entries((0, 0, 0, 0))
        self.assertIs(type(raised(next, found)), InvalidWay)

    def test_kept_outcomes_have_no_lost_plan(self):
        for way in EIGHT:
            for context, outcome in product(CONTEXTS, OUTCOMES):
                error = raised(lost_plan, way, context, outcome)
                kept = is_kept(way, context, outcome)
                self.assertIs(type(error), InvalidWay if kept else type(None))


class Excess(unittest.TestCase):
    def counted(self, table, way):
        known = amounts(table)
        return table.whole - sum(known[entry] for entry in lost(way))

    def test_example(self):
        self.assertEqual(excess(EXAMPLE, (0, 0, 0, 1)), 2)
        self.assertEqual(excess(BOX * GREAT, (0, 0, 0, 1)), 2 * GREAT)
        self.assertEqual(excess(Table.empty(SQUARE), (1, 1, 1, 0)), 0)

    def test_quiet_and_loud_tables(self):
        for table in [*quiet_squares(20), *any_squares()]:
            for way in EIGHT:
                self.assertEqual(excess(table, way), self.counted(table, way))

    def test_sums_boxes_plans_and_mixtures(self):
        tables = [*quiet_squares(8), *any_squares()]
        for first, second in zip(tables, tables[1:]):
            for way in EIGHT:
                self.assertEqual(excess(first + second, way), excess(first, way) + excess(second, way))
        for way in EIGHT:
            self.assertEqual(excess(box(way), way), 2)
            for plan in plans(SQUARE):
                losses = sum(not is_kept(way, context, plan_outcome(plan, context)) for context in CONTEXTS)
                self.assertIn(losses, (1, 3))
                self.assertEqual(excess(plan_table(SQUARE, plan), way), 1 - losses)
            for seed in range(5):
                mixture = Mixture(SQUARE, weighted_plans(SQUARE, seed))
                self.assertLessEqual(excess(mixture_table(mixture), way), 0)

    def test_at_most_one_way_has_an_excess_above_0(self):
        broken = 0
        for table in [*quiet_squares(60), *any_squares(), *[box(way) for way in EIGHT]]:
            found = [excess(table, way) for way in EIGHT]
            self.assertLessEqual(len([number for number in found if number > 0]), 1)
            for first, second in combinations(found, 2):
                self.assertLessEqual(first + second, 0)
            broken += max(found) > 0
        self.assertGreater(broken, 15)

    def test_the_excess_of_quiet_tables_is_even(self):
        for table in quiet_squares(50):
            for way in EIGHT:
                self.assertEqual(excess(table, way) % 2, 0)

    def test_other_shapes_come_first(self):
        for shape in SHAPES:
            if shape != SQUARE:
                for way in ((0, 0, 0, 1), (0, 0, 0, 0), ()):
                    self.assertIs(type(raised(excess, any_table(shape, 1), way)), WrongShape)


class LostPlans(unittest.TestCase):
    def test_example(self):
        self.assertEqual(lost_plan((0, 0, 0, 1), (0, 1), (1, 0)), ((1, 1), (1, 0)))

    def test_the_only_plan_that_loses_there_alone(self):
        for way in EIGHT:
            for entry in lost(way):
                wanted = [plan for plan in plans(SQUARE)
                          if [(context, plan_outcome(plan, context)) for context in CONTEXTS
                              if not is_kept(way, context, plan_outcome(plan, context))] == [entry]]
                self.assertEqual([lost_plan(way, *entry)], wanted)

    def test_twice_a_quiet_table_is_a_sum_of_boxes_and_lost_plans(self):
        for table in quiet_squares(30):
            known = amounts(table)
            for way in EIGHT:
                plain = Table.empty(SQUARE)
                for entry in lost(way):
                    plain = plain + plan_table(SQUARE, lost_plan(way, *entry)) * (2 * known[entry])
                s = excess(table, way)
                # A box is taken off on the other side if s is below 0.
                self.assertEqual(table * 2 + box(way) * max(0, -s), plain + box(way) * max(0, s))


class CornerForms(unittest.TestCase):
    def same(self, table):
        """Tests points 84 and 85, and returns the corner form."""
        form = corner_form(table)
        self.assertIs(type(form), tuple)
        way, count, mixture = form
        self.assertIs(type(mixture), Mixture)
        self.assertEqual(mixture.shape, SQUARE)
        share = square_share(table)
        self.assertIs(type(share), Share)
        self.assertEqual(conditions(table, share), [True] * 4)
        self.assertIs(is_share(table, share), True)
        self.assertEqual(share.bottom, 1)
        broken = [way for way in EIGHT if excess(table, way) > 0]
        if not broken:
            self.assertEqual((way, count), (None, 0))
            self.assertEqual(mixture_table(mixture), table)
            self.assertLessEqual(len(mixture.pairs), 12)
            self.assertEqual(gap(table), 0)
            self.assertEqual(share.mixture.total, table.whole)
            return form
        known = amounts(table)
        weights = {lost_plan(way, *entry): known[entry] for entry in lost(way)}
        self.assertEqual([way], broken)
        self.assertEqual(excess(table, way), 2 * count)
        self.assertEqual(dict(mixture.pairs), {plan: weight for plan, weight in weights.items() if weight})
        self.assertEqual(count * box(way) + mixture_table(mixture), table)
        self.assertEqual(share.mixture.pairs, mixture.pairs)
        self.assertEqual(share.costs, tuple(tuple(int((context, outcome) in lost(way))
                                                  for outcome in OUTCOMES) for context in CONTEXTS))
        self.assertEqual(gap(table), count)
        return form

    def test_example(self):
        way, count, mixture = self.same(EXAMPLE)
        self.assertEqual((way, count, mixture.pairs), ((0, 0, 0, 1), 1, ((((0, 0), (0, 0)), 3),)))

    def test_many_tables(self):
        found = [self.same(table) for table in quiet_squares(150)]
        ways_found = [way for way, count, mixture in found]
        self.assertGreater(ways_found.count(None), 40)
        self.assertGreater(len({way for way in ways_found if way}), 6)

    def test_tables_of_mixtures_have_no_broken_way(self):
        for seed in range(20):
            table = mixture_table(Mixture(SQUARE, weighted_plans(SQUARE, seed)))
            self.assertEqual(self.same(table)[:2], (None, 0))

    def test_every_way(self):
        noise = Table(SQUARE, 4, [[1] * 4] * 4)
        for way in EIGHT:
            for boxes in range(7):
                found, count, mixture = self.same(box(way) * boxes + noise)
                self.assertEqual((found, count), (way, boxes - 2) if boxes > 2 else (None, 0))
            found, count, mixture = self.same(box(way) * 5)
            self.assertEqual((found, count, mixture.pairs), (way, 5, ()))

    def test_sums_of_boxes_of_different_ways(self):
        for first, second in product(EIGHT, repeat=2):
            self.same(box(first) * 3 + box(second))
            self.same(box(first) * 3 + box(second) * 3)

    def test_whole_0_and_great_wholes(self):
        way, count, mixture = self.same(Table.empty(SQUARE))
        self.assertEqual((way, count, mixture.pairs), (None, 0, ()))
        for seed in range(8):
            self.same(two_sign_table(SQUARE, seed, GREAT))
        self.assertEqual(self.same(EXAMPLE * GREAT * GREAT)[1], GREAT ** 2)

    def test_the_count_is_the_least_number_of_boxes(self):
        # Whole 6: each sum of boxes and plans has at least as many boxes as the count.
        for seed in range(40):
            table = two_sign_table(SQUARE, seed, 9)
            way, count, mixture = corner_form(table)
            if way is None:
                continue
            for boxes in range(count + 1):
                left = table - box(way) * boxes
                self.assertEqual(excess(left, way), 2 * (count - boxes))
                self.assertEqual(gap(left), count - boxes)

    def test_other_shapes_and_tables_that_tell(self):
        for call in (corner_form, square_share):
            for shape in SHAPES:
                if shape != SQUARE:
                    self.assertIs(type(raised(call, any_table(shape, 1))), WrongShape)
                    self.assertIs(type(raised(call, Table.empty(shape))), WrongShape)
            for table in any_squares():
                error = raised(call, table)
                self.assertIs(type(error), TellsAcross)
                self.assertEqual(error.leak, first_telling(table))

    def test_the_same_question_after_another_one(self):
        self.assertEqual(self.same(EXAMPLE)[0], (0, 0, 0, 1))
        self.assertEqual(self.same(box((1, 1, 1, 0)))[0], (1, 1, 1, 0))
        self.assertEqual(self.same(EXAMPLE)[0], (0, 0, 0, 1))
