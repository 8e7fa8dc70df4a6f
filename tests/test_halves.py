"""Promises 20 and 87 to 94: halves, their tables, and the draws of halves of a quiet table."""

import unittest
from copy import deepcopy
from inspect import isgenerator
from itertools import product

from fardials.errors import InvalidHalf, InvalidPlan, InvalidShape, TellsAcross, WrongShape
from fardials.halves import Half, all_halves, half_draw, half_table, halves
from fardials.mixtures import Mixture, mixture_table
from fardials.plans import plan_outcome, plans
from fardials.tables import Table, lies_below, plan_table
from fardials.telling import first_telling
from tests.samples import (BOX, FULL_SHAPES, GREAT, SQUARE, any_table, context_list, outcome_list,
                           raised, two_sign_table, valid_shapes, weighted_plans)
from tests.test_stretches import EXAMPLE, amounts

PAIR = ((1, 2), (1, 2))
SHAPE = ((2, 2), (1, 2))
# All valid shapes of two hands with two signs each, and some others.
TWO_SIGNS = [shape for shape in valid_shapes() if [signs for dials, signs in shape] == [2, 2]]
SMALL = [shape for shape in TWO_SIGNS if sum(dials for dials, signs in shape) <= 4]
OTHERS = [((2, 2),), ((2, 3), (2, 2)), ((2, 2), (1, 3)), ((1, 3), (1, 3)), ((1, 2), (1, 2), (1, 2)),
          ((2, 2), (2, 2), (2, 2))]
INVALID = [(), ((4, 2), (4, 2)), ((0, 2), (1, 2)), ((1, 2), (5, 2)), ((1, 1), (1, 2)), ((3, 3), (2, 2))]
STATES, KINDS = [[2, 0], [2]], [[1], [0]]


def every_half(shape):
    """All triples (shape, states, kinds) of the shape in order, tested one by one."""
    left, right = shape[0][0], shape[1][0]
    for states in product(product(range(3), repeat=left), product(range(3), repeat=right)):
        for kinds in product(product(range(2), repeat=right), repeat=left):
            if all(kinds[x][y] == 0 or states[0][x] == states[1][y] == 2
                   for x in range(left) for y in range(right)):
                yield shape, states, kinds


def parts(half):
    return half.shape, half.states, half.kinds


def entry_amounts(half):
    """The table of a half as point 89 tells it."""
    found = {}
    for x, y in context_list(half.shape):
        first, second = half.states[0][x], half.states[1][y]
        for a, b in outcome_list(half.shape):
            if first == second == 2:
                number = int((a != b) == (half.kinds[x][y] == 1))
            elif first == 2:
                number = int(b == second)
            elif second == 2:
                number = int(a == first)
            else:
                number = 2 * int((a, b) == (first, second))
            found[(x, y), (a, b)] = number
    return found


def drawn(table, number):
    """The states and kinds of a draw as point 92 tells them."""
    known, whole = amounts(table), table.whole
    left, right = [range(dials) for dials, signs in table.shape]
    ones = [[known[(x, 0), (1, 0)] + known[(x, 0), (1, 1)] for x in left],
            [known[(0, y), (0, 1)] + known[(0, y), (1, 1)] for y in right]]
    states = tuple(tuple(0 if 2 * amount <= number else 1 if 2 * (whole - amount) <= number else 2
                         for amount in row) for row in ones)
    kinds = tuple(tuple(int(states[0][x] == states[1][y] == 2 and number >= 2 * (
        known[(x, y), (1, 1)] - max(0, ones[0][x] + ones[1][y] - whole))) for y in right) for x in left)
    return states, kinds


def quiet_tables(count=12, whole=9):
    for shape in TWO_SIGNS:
        for seed in range(count):
            yield two_sign_table(shape, seed, (whole + seed) % (whole + 5))


class NewHalves(unittest.TestCase):
    def refuses(self, kind, *items):
        with self.subTest(items):
            self.assertIs(type(raised(Half, *items)), kind)

    def test_attributes(self):
        half = Half(SHAPE, STATES, KINDS)
        self.assertEqual(parts(half), (SHAPE, ((2, 0), (2,)), ((1,), (0,))))
        self.assertEqual(parts(Half(SHAPE, ((2, 0), [2]), ([1], (0,)))), parts(half))
        self.assertEqual({type(row) for row in (half.states, half.kinds, *half.states, *half.kinds)}, {tuple})
        self.assertEqual((Half.LIVE, half.LIVE), (2, 2))

    def test_rows_are_copied(self):
        states, kinds = deepcopy(STATES), deepcopy(KINDS)
        half = Half(SHAPE, states, kinds)
        states[0][0] = kinds[0][0] = 0
        states.append([1])
        kinds.clear()
        self.assertEqual(parts(half), (SHAPE, ((2, 0), (2,)), ((1,), (0,))))

    def test_live(self):
        for states, kinds, live in (([[2, 0], [2]], [[1], [0]], ((0,), (0,))),
                                    ([[1, 0], [0]], [[0], [0]], ((), ())),
                                    ([[2, 2], [1]], [[0], [0]], ((0, 1), ())),
                                    ([[0, 1], [2]], [[0], [0]], ((), (0,))),
                                    ([[0, 2], [2]], [[0], [1]], ((1,), (0,)))):
            found = Half(SHAPE, states, kinds).live
            self.assertEqual(found, live)
            self.assertEqual({type(found), *map(type, found)}, {tuple})

    def test_invalid_shapes_come_first(self):
        for shape in INVALID:
            self.refuses(InvalidShape, shape, STATES, KINDS)
            self.refuses(InvalidShape, shape, [], [])

    def test_other_shapes_come_next(self):
        for shape in OTHERS:
            self.refuses(WrongShape, shape, STATES, KINDS)
            self.refuses(WrongShape, shape, [], [[5]])
            self.refuses(WrongShape, shape, [[0] * dials for dials, signs in shape], [[0]])

    def test_wrong_numbers_of_rows_and_integers(self):
        for states in ([], [[2, 0]], [[2, 0], [2], []], [[2], [2]], [[2, 0, 0], [2]], [[2, 0], []],
                       [[2, 0], [2, 2]], [[], []], [[2], [2, 0]]):
            self.refuses(InvalidHalf, SHAPE, states, KINDS)
            self.refuses(InvalidHalf, SHAPE, states, [])
        for kinds in ([], [[1]], [[1], [0], [0]], [[1, 0]], [[], [0]], [[1], []], [[1], [0, 0]], [[0, 0], [0]]):
            self.refuses(InvalidHalf, SHAPE, STATES, kinds)

    def test_wrong_states_and_kinds(self):
        for state in (3, -1, GREAT):
            self.refuses(InvalidHalf, SHAPE, [[state, 0], [0]], [[0], [0]])
            self.refuses(InvalidHalf, SHAPE, [[2, state], [2]], KINDS)
            self.refuses(InvalidHalf, SHAPE, [[2, 0], [state]], [[0], [0]])
        for kind in (2, -1, GREAT):
            self.refuses(InvalidHalf, SHAPE, [[2, 2], [2]], [[kind], [0]])
            self.refuses(InvalidHalf, SHAPE, [[2, 2], [2]], [[1], [kind]])

    def test_the_kind_of_a_fixed_dial(self):
        for states, kinds in (([[2, 0], [2]], [[0], [1]]), ([[2, 1], [2]], [[1], [1]]),
                              ([[2, 2], [0]], [[1], [0]]), ([[2, 2], [1]], [[0], [1]]),
                              ([[0, 0], [0]], [[1], [0]])):
            self.refuses(InvalidHalf, SHAPE, states, kinds)
        self.assertIsNone(raised(Half, SHAPE, [[2, 2], [2]], [[1], [1]]))

    def test_equal_halves(self):
        half = Half(SHAPE, STATES, KINDS)
        self.assertTrue(half == Half(SHAPE, tuple(STATES), tuple(KINDS)))
        self.assertFalse(half != Half(SHAPE, STATES, KINDS))
        for other in (Half(SHAPE, STATES, [[0], [0]]), Half(SHAPE, [[2, 1], [2]], KINDS),
                      Half(((1, 2), (2, 2)), [[2], [2, 0]], [[1, 0]]), parts(half), None, 2, BOX):
            self.assertFalse(half == other)
            self.assertTrue(half != other)
        found = list(all_halves(SQUARE))
        for at, first in enumerate(found[::7]):
            for other, second in enumerate(found[::7]):
                self.assertEqual(first == second, at == other)

    def test_halves_of_other_shapes_with_equal_rows_differ(self):
        # Without live dials the rows of kinds alone tell the number of dials.
        self.assertNotEqual(Half(((1, 2), (2, 2)), [[0], [0, 0]], [[0, 0]]),
                            Half(SHAPE, [[0, 0], [0]], [[0], [0]]))


class Fixed(unittest.TestCase):
    def test_the_signs_of_the_plan(self):
        for shape in TWO_SIGNS:
            for plan in list(plans(shape))[::5]:
                half = Half.fixed(shape, plan)
                self.assertIs(type(half), Half)
                self.assertEqual(parts(half), (shape, plan, ((0,) * shape[1][0],) * shape[0][0]))
                self.assertEqual(half_table(half), 2 * plan_table(shape, plan))

    def test_errors(self):
        for shape in INVALID:
            self.assertIs(type(raised(Half.fixed, shape, ((0,), (0,)))), InvalidShape)
        for shape in OTHERS:
            self.assertIs(type(raised(Half.fixed, shape, ((0,), (0,)))), WrongShape)
            self.assertIs(type(raised(Half.fixed, shape, next(plans(shape)))), WrongShape)
        for plan in ((), ((0, 0),), ((0,), (0,)), ((0, 0), (0,), (0,)), ((0, 2), (0,)), ((0, 0), (-1,)),
                     ((0, 0), (0, 0)), ((0,), (0, 0))):
            self.assertIs(type(raised(Half.fixed, SHAPE, plan)), InvalidPlan)


class Tables(unittest.TestCase):
    def test_example(self):
        half = Half(((2, 2), (1, 2)), [[2, 0], [2]], [[1], [0]])
        self.assertEqual(half_table(half).rows, ((0, 1, 1, 0), (1, 1, 0, 0)))

    def test_every_half_of_small_shapes(self):
        for shape in SMALL:
            for half in all_halves(shape):
                table = half_table(half)
                self.assertIs(type(table), Table)
                self.assertEqual((table.shape, table.whole), (shape, 2))
                self.assertEqual(amounts(table), entry_amounts(half))
                self.assertIsNone(first_telling(table))

    def test_large_shapes(self):
        for shape in TWO_SIGNS:
            for half in list(all_halves(shape))[::97]:
                self.assertEqual(amounts(half_table(half)), entry_amounts(half))


class PlansInHalves(unittest.TestCase):
    def test_plans_below_the_table(self):
        for shape in (PAIR, SHAPE, SQUARE):
            for half in list(all_halves(shape))[::3]:
                for plan in plans(shape):
                    below = lies_below(plan_table(shape, plan), half_table(half))
                    self.assertIs(plan in half, below)

    def test_known_halves(self):
        half = Half(SHAPE, STATES, KINDS)
        self.assertEqual([plan for plan in plans(SHAPE) if plan in half], [((0, 0), (1,)), ((1, 0), (0,))])
        half = Half(SQUARE, [[2, 2], [2, 2]], [[0, 0], [0, 1]])
        self.assertEqual([plan for plan in plans(SQUARE) if plan in half], [])
        half = Half(SQUARE, [[2, 2], [1, 0]], [[0, 0], [0, 0]])
        self.assertEqual(len([plan for plan in plans(SQUARE) if plan in half]), 4)
        for plan in plans(SQUARE):
            self.assertEqual([other for other in plans(SQUARE) if other in Half.fixed(SQUARE, plan)], [plan])


class Exchanged(unittest.TestCase):
    def test_known_halves(self):
        half = Half(SHAPE, STATES, KINDS)
        self.assertEqual(parts(half ^ ((0, 0), (0,))), parts(half))
        self.assertEqual(parts(half ^ ((1, 0), (0,))), (SHAPE, ((2, 0), (2,)), ((0,), (0,))))
        self.assertEqual(parts(half ^ ((0, 0), (1,))), (SHAPE, ((2, 0), (2,)), ((0,), (0,))))
        self.assertEqual(parts(half ^ ((1, 0), (1,))), parts(half))
        self.assertEqual(parts(half ^ ((0, 1), (0,))), (SHAPE, ((2, 1), (2,)), ((1,), (0,))))
        self.assertEqual(parts(half), (SHAPE, ((2, 0), (2,)), ((1,), (0,))))

    def test_the_table_is_that_with_exchanged_signs(self):
        for shape in (PAIR, SHAPE, SQUARE, ((1, 2), (3, 2))):
            for half in list(all_halves(shape))[::5]:
                known = entry_amounts(half)
                for plan in plans(shape):
                    other = half ^ plan
                    self.assertIs(type(other), Half)
                    self.assertEqual(amounts(half_table(other)), {
                        (context, tuple(a ^ b for a, b in zip(outcome, plan_outcome(plan, context)))): number
                        for (context, outcome), number in known.items()})
                    self.assertEqual(other ^ plan, half)
                    self.assertEqual(other.live, half.live)

    def test_plans_and_fixed_halves(self):
        for first, second in product(list(plans(SQUARE))[::2], repeat=2):
            mixed = tuple(tuple(a ^ b for a, b in zip(*rows)) for rows in zip(first, second))
            self.assertEqual(Half.fixed(SQUARE, first) ^ second, Half.fixed(SQUARE, mixed))


class AllHalves(unittest.TestCase):
    def test_all_of_small_shapes_in_order(self):
        for shape in SMALL:
            found = [parts(half) for half in all_halves(shape)]
            self.assertEqual(found, list(every_half(shape)))
            self.assertEqual(found, sorted(found))

    def test_how_many(self):
        for shape, wanted in ((PAIR, 10), (((3, 2), (3, 2)), 3280), (((4, 2), (2, 2)), 2644),
                              (((2, 2), (4, 2)), 2644)):
            found = list(all_halves(shape))
            self.assertEqual(len(found), wanted)
            keys = [(half.states, half.kinds) for half in found]
            self.assertEqual(keys, sorted(keys))
            self.assertEqual(len(set(keys)), wanted)
        self.assertEqual(max(len(list(all_halves(shape))) for shape in TWO_SIGNS), 3280)

    def test_generated_twice_and_in_part(self):
        first = all_halves(PAIR)
        self.assertTrue(isgenerator(first))
        self.assertEqual(parts(next(first)), (PAIR, ((0,), (0,)), ((0,),)))
        self.assertEqual(len(list(all_halves(PAIR))), 10)
        self.assertEqual(len(list(first)), 9)
        self.assertEqual(list(first), [])


class Draws(unittest.TestCase):
    def same(self, table):
        """Tests points 92 to 94 for a table, drawing by drawing."""
        found = [half_draw(table, number) for number in range(table.whole)]
        total = Table.empty(table.shape)
        for number, half in enumerate(found):
            self.assertIs(type(half), Half)
            self.assertEqual((half.states, half.kinds), drawn(table, number))
            total = total + half_table(half)
        self.assertEqual(total, 2 * table)
        runs = []
        for half in found:
            if runs and runs[-1][0] == half:
                runs[-1][1] += 1
            else:
                runs.append([half, 1])
        joined = halves(table)
        self.assertIs(type(joined), list)
        self.assertEqual([(parts(half), count) for half, count in joined],
                         [(parts(half), count) for half, count in runs])
        self.runs(table)

    def runs(self, table):
        """Tests what point 93 says of the runs, also for a great whole."""
        joined = halves(table)
        self.assertEqual({type(item) for item in joined} | {tuple}, {tuple})
        self.assertEqual(sum(count for half, count in joined), table.whole)
        total = Table.empty(table.shape)
        start = 0
        for half, count in joined:
            self.assertGreater(count, 0)
            for number in {start, start + count // 2, start + count - 1}:
                self.assertEqual(parts(half_draw(table, number)), parts(half))
            start += count
            total = total + count * half_table(half)
        self.assertEqual(total, 2 * table)
        for (first, _), (second, _) in zip(joined, joined[1:]):
            self.assertNotEqual(first, second)
            for before, after in zip(sum(first.states, ()), sum(second.states, ())):
                self.assertIn((before, after), [(0, 0), (1, 1), (2, 0), (2, 1), (2, 2)])
        d, e = [dials for dials, signs in table.shape]
        self.assertLessEqual(len(joined), d + e + d * e + 1)

    def test_examples(self):
        table = Table(PAIR, 3, [[1, 1, 0, 1]])
        self.assertEqual([(half.states, half.kinds, count) for half, count in halves(table)],
                         [(((2,), (2,)), ((0,),), 2), (((0,), (1,)), ((0,),), 1)])
        self.same(table)

    def test_known_tables(self):
        self.assertEqual([(parts(half), count) for half, count in halves(BOX)],
                         [((SQUARE, ((2, 2), (2, 2)), ((0, 0), (0, 1))), 2)])
        self.same(EXAMPLE)
        # Half of the draws show both signs alike, then both unlike.
        table = Table(PAIR, 8, [[2, 2, 2, 2]])
        self.assertEqual([(half.states, half.kinds, count) for half, count in halves(table)],
                         [(((2,), (2,)), ((0,),), 4), (((2,), (2,)), ((1,),), 4)])
        # An odd whole: the dial of hand 0 is live in the first 2 draws, that of hand 1 in 4.
        table = Table(PAIR, 5, [[0, 1, 2, 2]])
        self.assertEqual([(half.states, count) for half, count in halves(table)],
                         [(((2,), (2,)), 2), (((1,), (2,)), 2), (((1,), (1,)), 1)])

    def test_tables_of_halves(self):
        for shape in SMALL:
            for half in list(all_halves(shape))[::4]:
                for times in (1, 2, 5):
                    table = half_table(half) * times
                    found = halves(table)
                    self.assertEqual([(parts(one), count) for one, count in found],
                                     [(parts(half), 2 * times)])

    def test_draw_by_draw(self):
        for table in quiet_tables():
            self.same(table)

    def test_tables_of_mixtures(self):
        for shape in TWO_SIGNS:
            self.same(mixture_table(Mixture(shape, weighted_plans(shape, 3)[:6])))

    def test_all_tables_of_a_pair_of_dials(self):
        for whole in range(6):
            for row in product(range(whole + 1), repeat=4):
                if sum(row) == whole:
                    self.same(Table(PAIR, whole, [row]))

    def test_whole_0(self):
        for shape in TWO_SIGNS:
            self.assertEqual(halves(Table.empty(shape)), [])
            for number in (0, -1, 1, GREAT):
                self.assertIs(type(raised(half_draw, Table.empty(shape), number)), InvalidHalf)

    def test_great_wholes(self):
        most = 0
        for shape in TWO_SIGNS:
            for seed in range(8):
                for table in (two_sign_table(shape, seed, GREAT), two_sign_table(shape, seed, GREAT) * GREAT):
                    self.runs(table)
                    most = max(most, len(halves(table)))
        self.assertGreater(most, 8)

    def test_numbers_that_are_no_draw(self):
        for table in (EXAMPLE, two_sign_table(FULL_SHAPES[1], 3, GREAT)):
            self.assertIsNone(raised(half_draw, table, 0))
            self.assertIsNone(raised(half_draw, table, table.whole - 1))
            for number in (-1, -GREAT, table.whole, table.whole + 1, 9 * table.whole):
                self.assertIs(type(raised(half_draw, table, number)), InvalidHalf)

    def test_lists_are_new_ones(self):
        first = halves(EXAMPLE)
        kept = [(parts(half), count) for half, count in first]
        first.clear()
        self.assertEqual(len(halves(BOX)), 1)
        self.assertEqual([(parts(half), count) for half, count in halves(EXAMPLE)], kept)


class Errors(unittest.TestCase):
    def test_other_shapes(self):
        for shape in OTHERS:
            for table in (Table.empty(shape), any_table(shape, 1)):
                self.assertIs(type(raised(halves, table)), WrongShape)
                for number in (0, -1, GREAT):
                    self.assertIs(type(raised(half_draw, table, number)), WrongShape)

    def test_tables_that_are_not_quiet(self):
        for shape in TWO_SIGNS:
            for seed in range(3):
                table = any_table(shape, seed)
                leak = first_telling(table)
                if leak is None:
                    continue
                for error in (raised(halves, table), raised(half_draw, table, 0),
                              raised(half_draw, table, -1), raised(half_draw, table, 50)):
                    self.assertIs(type(error), TellsAcross)
                    self.assertEqual(error.leak, leak)
