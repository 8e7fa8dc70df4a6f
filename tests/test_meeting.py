"""Promises 20, 65 and 71 to 75: broken pairs and meeting shares."""

import unittest

from fardials.errors import TellsAcross, WrongShape
from fardials.meeting import broken_pair, meeting_share
from fardials.mixtures import Mixture, mixture_table
from fardials.plainshare import plain_share
from fardials.shares import Share, is_share
from fardials.stretches import all_stretches, gap
from fardials.tables import Table
from fardials.telling import first_telling
from tests.samples import (BOX, GREAT, TWO_DIALS, any_table, raised, two_sign_table,
                           weighted_plans)
from tests.test_plainshare import conditions
from tests.test_stretches import EXAMPLE, OTHER_SHAPES, loud_tables, some_tables

UNLIKE = [0, 1, 1, 0]
ALIKE = [1, 0, 0, 1]


def shared_dials(kinds):
    """The table of whole 2 in which dial y of hand 1 is unlike dial x at kinds[x][y] 1."""
    rows = [UNLIKE if kind else ALIKE for row in kinds for kind in row]
    return Table(((2, 2), (len(kinds[0]), 2)), 2, rows)


class MeetingTest(unittest.TestCase):
    def same(self, table):
        """Tests point 72, and that the pair of dials is the one of point 71."""
        share = meeting_share(table)
        wanted = table.whole - 2 * gap(table)
        self.assertIs(type(share), Share)
        self.assertEqual((share.bottom, share.mixture.total), (1, wanted))
        self.assertEqual(conditions(table, share), [True] * 4)
        self.assertIs(is_share(table, share), True)
        self.assertLessEqual(len(share.mixture.pairs), 4 * (table.shape[1][0] + 1))
        most = max(cost for row in share.costs for cost in row)
        self.assertLessEqual(len(str(most)), len(str(table.whole)) + 100)
        found = list(all_stretches(table))
        lows, highs = [low for low, high in found], [high for low, high in found]
        pair = broken_pair(table)
        if gap(table) == 0:
            self.assertIsNone(pair)
            self.assertEqual(mixture_table(share.mixture), table)
            return share
        self.assertIs(type(pair), tuple)
        self.assertEqual(pair, (lows.index(max(lows)), highs.index(min(highs))))
        self.assertGreater(lows[pair[0]], highs[pair[1]])
        self.assertNotEqual(pair[0], pair[1])
        return share


class BrokenPairs(MeetingTest):
    def test_example(self):
        self.assertEqual(broken_pair(EXAMPLE), (0, 1))
        self.assertEqual(broken_pair(BOX), (0, 1))

    def test_the_first_dial_counts(self):
        # A dial that is alike to both dials of hand 0 has the stretch (1, 1), one that is alike to
        # one of them and unlike to the other has (0, 0).
        for kinds, wanted in (([[0, 0], [1, 0]], (1, 0)), ([[0, 0, 0], [1, 0, 0]], (1, 0)),
                              ([[0, 0, 0, 1], [0, 0, 1, 0]], (0, 2)), ([[1, 0, 0, 1], [0, 1, 0, 1]], (2, 0)),
                              ([[1, 1, 1, 0], [1, 0, 0, 0]], (0, 1)), ([[0, 1], [0, 1]], None),
                              ([[0, 1, 0], [1, 0, 1]], None), ([[0], [1]], None)):
            with self.subTest(kinds):
                self.assertEqual(broken_pair(shared_dials(kinds)), wanted)
                self.same(shared_dials(kinds))

    def test_one_dial_of_hand_1_never_breaks(self):
        for seed in range(20):
            self.assertIsNone(broken_pair(two_sign_table(TWO_DIALS[0], seed)))


class Shares(MeetingTest):
    def test_example(self):
        self.assertEqual(self.same(EXAMPLE).mixture.pairs, ((((0, 0), (0, 0)), 3),))
        self.assertEqual(self.same(BOX).mixture.pairs, ())

    def test_many_tables(self):
        gaps = [gap(table) for table in some_tables(60) if self.same(table)]
        self.assertGreater(gaps.count(0), 50)
        self.assertGreater(len(gaps) - gaps.count(0), 30)

    def test_no_plain_share_is_greater(self):
        for shape in TWO_DIALS:
            for seed in range(12):
                table = two_sign_table(shape, seed, 1 + seed)
                best = plain_share(table)
                self.assertEqual(best.mixture.total, best.bottom * meeting_share(table).mixture.total)
                whole = best.mixture.total == best.bottom * table.whole
                self.assertEqual(gap(table) == 0, whole)

    def test_tables_of_mixtures_have_no_gap(self):
        for shape in TWO_DIALS:
            for seed in range(12):
                table = mixture_table(Mixture(shape, weighted_plans(shape, seed)))
                self.assertEqual(gap(table), 0)
                self.assertEqual(mixture_table(self.same(table).mixture), table)

    def test_boxes_and_noise(self):
        for kinds in ([[0, 0], [0, 1]], [[1, 0, 0], [0, 0, 1]], [[0, 1, 0, 1], [0, 0, 1, 1]]):
            table = shared_dials(kinds)
            noise = Table(table.shape, 4, [[1] * 4] * len(table.rows))
            for times in range(6):
                total = table * times + noise * 2
                self.assertEqual(self.same(total).mixture.total, total.whole - 2 * max(0, times - 4))

    def test_whole_0(self):
        for shape in TWO_DIALS:
            self.assertEqual(self.same(Table.empty(shape)).mixture.pairs, ())

    def test_great_wholes(self):
        for shape in TWO_DIALS:
            for seed in range(6):
                self.same(two_sign_table(shape, seed, GREAT))
        self.assertEqual(self.same(EXAMPLE * GREAT).mixture.total, 3 * GREAT)
        self.same(two_sign_table(TWO_DIALS[3], 7, GREAT) * GREAT)

    def test_the_same_question_after_another_one(self):
        first = meeting_share(EXAMPLE)
        self.assertEqual(broken_pair(shared_dials([[0, 0], [1, 0]])), (1, 0))
        again = meeting_share(EXAMPLE)
        self.assertEqual((again.mixture.pairs, again.costs), (first.mixture.pairs, first.costs))
        self.assertEqual(broken_pair(EXAMPLE), (0, 1))


class Errors(MeetingTest):
    def test_other_shapes(self):
        for shape in OTHER_SHAPES:
            for table in (Table.empty(shape), any_table(shape, 1)):
                self.assertIs(type(raised(broken_pair, table)), WrongShape)
                self.assertIs(type(raised(meeting_share, table)), WrongShape)

    def test_tables_that_are_not_quiet(self):
        for table in loud_tables():
            for call in (broken_pair, meeting_share):
                error = raised(call, table)
                self.assertIs(type(error), TellsAcross)
                self.assertEqual(error.leak, first_telling(table))
