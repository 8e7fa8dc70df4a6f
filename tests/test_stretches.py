"""Promises 20, 65 to 71 and 76: stretches, joints, meetings and gaps."""

import unittest
from inspect import isgenerator
from itertools import permutations, product
from random import Random

from fardials.errors import OutOfStretch, TellsAcross, WrongShape
from fardials.stretches import all_stretches, gap, joint, meeting, stretch
from fardials.tables import Table
from fardials.telling import first_telling
from tests.samples import (BOX, GREAT, SQUARE, TWO_DIALS, any_table, context_list, outcome_list, raised,
                           two_sign_table)

EXAMPLE = Table(SQUARE, 5, [[4, 0, 0, 1], [4, 0, 0, 1], [4, 0, 0, 1], [3, 1, 1, 0]])

# Shapes that these functions refuse: other hands, dials or signs, one hand and three hands.
OTHER_SHAPES = [((2, 2),), ((1, 2), (2, 2)), ((3, 2), (2, 2)), ((2, 3), (1, 2)), ((2, 2), (1, 3)),
                ((2, 2), (2, 3)), ((1, 2), (4, 2)), ((4, 2), (2, 2)), ((2, 2), (2, 2), (1, 2)),
                ((2, 2), (1, 2), (1, 2))]


def amounts(table):
    return {(context, outcome): amount for context, row in zip(context_list(table.shape), table.rows)
            for outcome, amount in zip(outcome_list(table.shape), row)}


def joints(table, dial):
    """For each `both`, all joints of the dial with it, as dicts: each amount is tried."""
    known = amounts(table)
    found = {}
    choices = []
    for sign in (0, 1):
        p, r = known[(0, dial), (1, sign)], known[(1, dial), (1, sign)]
        q = p + known[(0, dial), (0, sign)]
        cells = [{(0, 0): q - p - r + z, (0, 1): r - z, (1, 0): p - z, (1, 1): z}
                 for z in range(table.whole + 1)]
        choices.append([part for part in cells if min(part.values()) >= 0])
    for first, second in product(*choices):
        both = first[1, 1] + second[1, 1]
        found.setdefault(both, []).append((first, second))
    return found


def ends(table, dial):
    """The stretch as point 67 tells it."""
    known = amounts(table)
    low = high = 0
    for sign in (0, 1):
        p, r = known[(0, dial), (1, sign)], known[(1, dial), (1, sign)]
        q = known[(0, dial), (0, sign)] + p
        low += max(0, p + r - q)
        high += min(p, r)
    return low, high


def renamed(table, entry_before):
    """The table whose amount at an entry is that of the given one at the entry it had before."""
    known = amounts(table)
    rows = [[known[entry_before(context, outcome)] for outcome in outcome_list(table.shape)]
            for context in context_list(table.shape)]
    return Table(table.shape, table.whole, rows)


def some_tables(count=25):
    for shape in TWO_DIALS:
        for seed in range(count):
            yield two_sign_table(shape, seed, whole=1 + seed % 13)


def loud_tables():
    for shape in TWO_DIALS:
        yield from (table for table in map(any_table, [shape] * 4, range(4)) if first_telling(table))
    # Hand 1 alone tells, and hand 0 alone at the last dial.
    yield Table(SQUARE, 1, [[1, 0, 0, 0], [0, 0, 1, 0], [1, 0, 0, 0], [1, 0, 0, 0]])
    yield Table(((2, 2), (3, 2)), 1, [[1, 0, 0, 0]] * 5 + [[0, 1, 0, 0]])


class StretchTest(unittest.TestCase):
    def calls(self, table, dial=0):
        """The functions of the file, as calls without arguments."""
        return [lambda: stretch(table, dial), lambda: list(all_stretches(table)), lambda: gap(table),
                lambda: joint(table, dial, 0), lambda: joint(table, dial, -GREAT)]


class Stretches(StretchTest):
    def test_example(self):
        self.assertEqual(stretch(EXAMPLE, 0), (1, 1))
        self.assertEqual(stretch(EXAMPLE, 1), (0, 0))
        self.assertEqual(list(all_stretches(EXAMPLE)), [(1, 1), (0, 0)])

    def test_kinds_of_values(self):
        self.assertIs(type(stretch(EXAMPLE, 0)), tuple)
        self.assertTrue(isgenerator(all_stretches(EXAMPLE)))
        self.assertIs(type(next(all_stretches(EXAMPLE))), tuple)

    def test_known_stretches(self):
        # Nothing is common to both hands: each sign of the dial leaves all of 0 to 1 and 1 to 2.
        noise = Table(SQUARE, 8, [[2] * 4] * 4)
        self.assertEqual(list(all_stretches(noise)), [(0, 4), (0, 4)])
        self.assertEqual(list(all_stretches(BOX)), [(1, 1), (0, 0)])
        table = Table(((2, 2), (1, 2)), 9, [[1, 2, 3, 3], [0, 3, 4, 2]])
        # p = (3, 3), q = (4, 5), r = (4, 2).
        self.assertEqual(stretch(table, 0), (3 + 0, 3 + 2))

    def test_as_the_words_of_the_document_say(self):
        for table in some_tables():
            dials = range(table.shape[1][0])
            self.assertEqual([stretch(table, dial) for dial in dials], [ends(table, dial) for dial in dials])
            self.assertEqual(list(all_stretches(table)), [ends(table, dial) for dial in dials])

    def test_bounds_of_both_ends(self):
        for table in some_tables():
            known = amounts(table)
            for dial, (low, high) in enumerate(all_stretches(table)):
                first = known[(0, dial), (1, 0)] + known[(0, dial), (1, 1)]
                second = known[(1, dial), (1, 0)] + known[(1, dial), (1, 1)]
                self.assertLessEqual(max(0, first + second - table.whole), low)
                self.assertLessEqual(low, high)
                self.assertLessEqual(high, min(first, second))

    def test_whole_0_and_great_wholes(self):
        for shape in TWO_DIALS:
            self.assertEqual(list(all_stretches(Table.empty(shape))), [(0, 0)] * shape[1][0])
        self.assertEqual(list(all_stretches(EXAMPLE * GREAT * GREAT)), [(GREAT ** 2, GREAT ** 2), (0, 0)])

    def test_iterated_twice_and_in_part(self):
        first = all_stretches(EXAMPLE)
        self.assertEqual(next(first), (1, 1))
        self.assertEqual(list(all_stretches(BOX * 3)), [(3, 3), (0, 0)])
        self.assertEqual(list(first), [(0, 0)])
        self.assertEqual(list(first), [])


class Joints(StretchTest):
    def test_example(self):
        self.assertEqual(joint(EXAMPLE, 0, 1), ((4, 0), (0, 0), (0, 0), (0, 1)))
        self.assertEqual(joint(EXAMPLE, 1, 0), ((3, 0), (1, 0), (0, 1), (0, 0)))
        found = joint(EXAMPLE, dial=0, both=1)
        self.assertEqual({type(item) for item in (found, *found)}, {tuple})

    def test_as_much_as_possible_at_sign_0(self):
        table = Table(((2, 2), (1, 2)), 8, [[2] * 4] * 2)
        self.assertEqual([joint(table, 0, both)[3] for both in range(5)],
                         [(0, 0), (1, 0), (2, 0), (2, 1), (2, 2)])

    def test_both_is_in_the_stretch_exactly_if_there_is_a_joint(self):
        for table in some_tables(12):
            for dial in range(table.shape[1][0]):
                found = joints(table, dial)
                low, high = stretch(table, dial)
                self.assertEqual(sorted(found), list(range(low, high + 1)))
                for both in range(low, high + 1):
                    wanted = max(found[both], key=lambda parts: parts[0][1, 1])
                    cells = joint(table, dial, both)
                    self.assertEqual(cells, tuple((wanted[0][cell], wanted[1][cell])
                                                  for cell in product((0, 1), repeat=2)))
                for both in (low - 1, high + 1, -1, low - GREAT, high + GREAT):
                    self.assertIs(type(raised(joint, table, dial, both)), OutOfStretch)

    def test_the_joint_agrees_with_the_table(self):
        for table in some_tables():
            known = amounts(table)
            for dial, (low, high) in enumerate(all_stretches(table)):
                for both in {low, (low + high) // 2, high}:
                    cells = dict(zip(product((0, 1), repeat=2), joint(table, dial, both)))
                    self.assertGreaterEqual(min(min(pair) for pair in cells.values()), 0)
                    self.assertEqual(sum(cells[1, 1]), both)
                    for a, b in product((0, 1), repeat=2):
                        self.assertEqual(cells[a, 0][b] + cells[a, 1][b], known[(0, dial), (a, b)])
                        self.assertEqual(cells[0, a][b] + cells[1, a][b], known[(1, dial), (a, b)])

    def test_great_numbers_and_whole_0(self):
        table = EXAMPLE * GREAT
        self.assertEqual(joint(table, 0, GREAT), ((4 * GREAT, 0), (0, 0), (0, 0), (0, GREAT)))
        for both in (GREAT - 1, GREAT + 1):
            self.assertIs(type(raised(joint, table, 0, both)), OutOfStretch)
        empty = Table.empty(TWO_DIALS[3])
        self.assertEqual(joint(empty, 3, 0), ((0, 0),) * 4)
        for both in (-1, 1):
            self.assertIs(type(raised(joint, empty, 3, both)), OutOfStretch)


class Meetings(StretchTest):
    def test_meeting(self):
        self.assertEqual(meeting([(1, 1), (0, 0)]), (1, 0))
        self.assertEqual(meeting([(3, 9)]), (3, 9))
        self.assertEqual(meeting([(3, 9), (5, 7), (4, 8)]), (5, 7))
        self.assertEqual(meeting(((-5, GREAT), (-7, -6))), (-5, -6))
        self.assertEqual(meeting([(0, 5), (5, 9)]), (5, 5))
        self.assertIs(type(meeting([(3, 9)])), tuple)

    def test_known_gaps(self):
        self.assertEqual((gap(EXAMPLE), gap(BOX), gap(BOX * GREAT)), (1, 1, GREAT))
        self.assertEqual(gap(Table(SQUARE, 8, [[2] * 4] * 4)), 0)
        for shape in TWO_DIALS:
            self.assertEqual(gap(Table.empty(shape)), 0)

    def test_gaps_as_the_words_say(self):
        gaps = []
        for table in some_tables():
            found = [ends(table, dial) for dial in range(table.shape[1][0])]
            wanted = max(low for low, high in found) - min(high for low, high in found)
            self.assertEqual(gap(table), max(0, wanted))
            common = [all(low <= both <= high for low, high in found) for both in range(table.whole + 1)]
            self.assertEqual(gap(table) == 0, any(common))
            pairs = [max(one[0], other[0]) <= min(one[1], other[1]) for one in found for other in found]
            self.assertEqual(gap(table) == 0, all(pairs))
            gaps.append(gap(table))
            if table.shape == TWO_DIALS[0]:
                self.assertEqual(gap(table), 0)
        self.assertGreater(max(gaps), 2)

    def test_stretches_that_just_meet(self):
        # Both stretches are the one integer 1; then that of dial 1 becomes (0, 0).
        alike = [1, 0, 0, 1]
        self.assertEqual(gap(Table(SQUARE, 2, [alike] * 4)), 0)
        self.assertEqual(list(all_stretches(Table(SQUARE, 2, [alike] * 4))), [(1, 1), (1, 1)])
        self.assertEqual(gap(BOX), 1)


class Renaming(StretchTest):
    def renamings(self, table):
        """All tables that point 76 names, with the name of what was done."""
        many = table.shape[1][0]
        yield "dials 0", renamed(table, lambda c, o: ((1 - c[0], c[1]), o))
        for order in permutations(range(many)):
            yield "dials 1", renamed(table, lambda c, o: ((c[0], order[c[1]]), o))
        for hand, dials in ((0, 2), (1, many)):
            for dial in range(dials):
                def before(context, outcome):
                    if context[hand] != dial:
                        return context, outcome
                    changed = list(outcome)
                    changed[hand] = 1 - changed[hand]
                    return context, tuple(changed)
                yield (hand, dial), renamed(table, before)

    def test_renaming_keeps_the_gap(self):
        chance = Random(1)
        for table in some_tables(8):
            known = amounts(table)
            first = known[(0, 0), (1, 0)] + known[(0, 0), (1, 1)]
            second = known[(1, 0), (1, 0)] + known[(1, 0), (1, 1)]
            found = list(all_stretches(table))
            for name, other in self.renamings(table):
                self.assertEqual(gap(other), gap(table), name)
                if name == (0, 0):
                    wanted = [(second - high, second - low) for low, high in found]
                elif name == (0, 1):
                    wanted = [(first - high, first - low) for low, high in found]
                else:
                    wanted = found
                self.assertEqual(sorted(all_stretches(other)), sorted(wanted), name)
                if name != "dials 1":
                    self.assertEqual(list(all_stretches(other)), wanted, name)
                if chance.random() < 0.2:
                    self.assertEqual(list(all_stretches(table)), found)


class Errors(StretchTest):
    def test_other_shapes(self):
        for shape in OTHER_SHAPES:
            for table in (Table.empty(shape), any_table(shape, 1), any_table(shape, 2)):
                for dial in (0, 1, 7, -9):
                    for call in self.calls(table, dial):
                        self.assertIs(type(raised(call)), WrongShape, shape)

    def test_tables_that_are_not_quiet(self):
        for table in loud_tables():
            for call in self.calls(table):
                error = raised(call)
                self.assertIs(type(error), TellsAcross)
                self.assertEqual(error.leak, first_telling(table))

    def test_errors_when_the_iteration_starts(self):
        for table, kind in ((Table.empty(((3, 2), (2, 2))), WrongShape), (any_table(SQUARE, 1), TellsAcross)):
            found = all_stretches(table)
            self.assertIs(type(raised(next, found)), kind)

    def test_the_right_shapes(self):
        for shape in TWO_DIALS:
            for call in self.calls(two_sign_table(shape, 5))[:3]:
                self.assertIsNone(raised(call))
