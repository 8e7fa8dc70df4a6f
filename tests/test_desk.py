"""Promises 20 and 166 to 169: reordered shares, quick shares, certificates and their judge."""

import unittest
from copy import deepcopy
from itertools import permutations
from random import Random

from fardials.desk import certificate, judge, quick_share, reordered_share
from fardials.errors import InvalidText, WrongShape
from fardials.mixtures import Mixture
from fardials.plainshare import plain_share
from fardials.shares import Share, is_share
from fardials.stretches import gap
from fardials.tables import Table
from fardials.telling import first_telling
from fardials.texts import read_share, read_table, write_share, write_table
from fardials.views import reordered
from tests.samples import (BOX, FULL_SHAPES, GREAT, SHAPES, SQUARE, THREE_HANDS, TWO_DIALS, any_table,
                           context_list, full_table, outcome_list, quiet_table, raised, two_sign_table,
                           valid_shapes)
from tests.test_plainshare import conditions
from tests.test_texts import NO_NUMBERS, PAPER, TEXT, any_share, parts

# Two hands with two signs each, of which one has two dials, and the others.
QUICK = [*TWO_DIALS, *[(right, left) for left, right in TWO_DIALS if right != (2, 2)]]
SLOW = [((1, 2), (1, 2)), ((3, 2), (1, 2)), ((1, 2), (4, 2)), ((3, 2), (3, 2)), ((2, 2), (1, 3)), ((1, 3), (2, 2)),
        ((2, 2),), ((2, 2), (2, 2), (1, 2)), THREE_HANDS]
# A great whole of 300 digits.
HUGE = 10 ** 300 - 1


def told_share(share, order):
    """The parts of the reordered share, by dicts from entries to costs."""
    mixture = share.mixture
    costs = {(context, outcome): cost for context, row in zip(context_list(mixture.shape), share.costs)
             for outcome, cost in zip(outcome_list(mixture.shape), row)}
    shape = tuple(mixture.shape[hand] for hand in order)
    rows = []
    for context in context_list(shape):
        row = []
        for outcome in outcome_list(shape):
            dials, signs = [None] * len(order), [None] * len(order)
            for k, hand in enumerate(order):
                dials[hand], signs[hand] = context[k], outcome[k]
            row.append(costs[tuple(dials), tuple(signs)])
        rows.append(tuple(row))
    pairs = sorted((tuple(plan[hand] for hand in order), weight) for plan, weight in mixture.pairs)
    return shape, tuple(pairs), share.bottom, tuple(rows)


def total(share):
    return share.mixture.total, share.bottom


def tables():
    for seed, shape in enumerate([*QUICK, *SLOW]):
        yield from (quiet_table(shape, seed), any_table(shape, seed), full_table(shape, seed), Table.empty(shape))
        if [signs for dials, signs in shape] == [2, 2]:
            yield from (two_sign_table(shape, seed), two_sign_table(shape, seed + 9, 7))


class ReorderedShare(unittest.TestCase):
    def test_known_share(self):
        shape = ((1, 3), (2, 2))
        share = Share(Mixture(shape, [(((0,), (0, 1)), 4), (((2,), (0, 0)), 15)]), bottom=3,
                      costs=[[0, 1, 2, 30, 0, 5], [7, 0, -1, 0, -20, 0]])
        found = reordered_share(share, (1, 0))
        self.assertIs(type(found), Share)
        self.assertEqual(parts(found), (
            ((2, 2), (1, 3)), ((((0, 0), (2,)), 15), (((0, 1), (0,)), 4)), 3,
            ((0, 2, 0, 1, 30, 5), (7, -1, -20, 0, 0, 0))))
        self.assertEqual(parts(reordered_share(share, order=(0, 1))), parts(share))

    def test_every_order(self):
        for shape in SHAPES:
            for seed in range(3):
                share = any_share(shape, seed)
                for order in permutations(range(len(shape))):
                    found = reordered_share(share, order)
                    self.assertEqual(parts(found), told_share(share, order))
                    back = tuple(order.index(hand) for hand in range(len(shape)))
                    self.assertEqual(parts(reordered_share(found, back)), parts(share))

    def test_the_share_of_the_reordered_table(self):
        for shape in SHAPES:
            if shape in FULL_SHAPES:
                continue
            for table in (any_table(shape, 4), quiet_table(shape, 4)):
                share = plain_share(table)
                for order in permutations(range(len(shape))):
                    found = reordered_share(share, order)
                    self.assertTrue(is_share(reordered(table, order), found))
                    self.assertEqual(total(found), total(share))

    def test_orders_that_are_none(self):
        for shape in SHAPES:
            share, many = any_share(shape, 1), len(shape)
            for order in ((), tuple(range(many - 1)), tuple(range(many + 1)), (0,) * (many + 1),
                          (*range(many - 1), many), (-1, *range(1, many)), tuple(range(1, many + 1)),
                          (0, *range(many)), (GREAT, *range(1, many))):
                self.assertIs(type(raised(reordered_share, share, order)), WrongShape)
            if many > 1:
                self.assertIs(type(raised(reordered_share, share, (1,) * many)), WrongShape)

    def test_the_share_is_not_changed(self):
        share = any_share(SQUARE, 5)
        before = parts(share)
        reordered_share(share, (1, 0))
        self.assertEqual(parts(share), before)


class QuickShare(unittest.TestCase):
    def same(self, table):
        share = quick_share(table)
        self.assertIs(type(share), Share)
        self.assertIs(is_share(table, share), True)
        self.assertEqual(set(conditions(table, share)), {True})
        return share

    def test_quiet_tables_with_two_dials_on_one_side(self):
        for shape in QUICK:
            for seed in range(25):
                table = two_sign_table(shape, seed, 7 + seed)
                share = self.same(table)
                self.assertEqual(share.bottom, 1)
                turned = table if shape[0] == (2, 2) else reordered(table, (1, 0))
                self.assertEqual(share.mixture.total, table.whole - 2 * gap(turned))
                slow = plain_share(table)
                self.assertEqual(slow.mixture.total, share.mixture.total * slow.bottom)

    def test_bottoms_above_1_occur_elsewhere(self):
        # The same kind of table with three dials on both sides, or with leaks, may need them.
        bottoms = set()
        for seed in range(12):
            bottoms.add(self.same(any_table(SQUARE, seed)).bottom)
            bottoms.add(self.same(full_table(((2, 2), (4, 2)), seed)).bottom)
            bottoms.add(self.same(two_sign_table(((3, 2), (3, 2)), seed)).bottom)
        self.assertGreater(len(bottoms), 1)

    def test_other_tables_have_shares_in_lowest_terms(self):
        for table in tables():
            share = self.same(table)
            quick = table.shape in QUICK and first_telling(table) is None
            if quick:
                self.assertEqual(share.bottom, 1)
            else:
                wanted = plain_share(table)
                self.assertEqual(total(share), total(wanted))
                self.assertEqual(parts(share), parts(wanted))

    def test_known_tables(self):
        self.assertEqual(total(self.same(BOX)), (0, 1))
        table = Table(SQUARE, 5, [[4, 0, 0, 1], [4, 0, 0, 1], [4, 0, 0, 1], [3, 1, 1, 0]])
        self.assertEqual(total(self.same(table)), (3, 1))
        self.assertEqual(total(self.same(Table(((1, 2),), 3, [[1, 2]]))), (3, 1))

    def test_great_wholes(self):
        for shape in (*QUICK, ((3, 2), (3, 2)), ((2, 2), (1, 3))):
            self.same(quiet_table(shape, 3) * GREAT)
            self.same(full_table(shape, 3, HUGE))

    def test_the_same_question_after_another_one(self):
        first = parts(quick_share(BOX))
        self.same(any_table(SQUARE, 3))
        self.assertEqual(parts(quick_share(BOX)), first)


class Certificates(unittest.TestCase):
    def test_known_certificates(self):
        text = "hands 1x2\nwhole 3\n1 2"
        self.assertEqual(certificate(text), "hands 1x2\nbottom 1\n1 1\n1 0\n2 1")
        self.assertIs(judge(text, certificate(text)), True)

    def test_judge_takes_the_certificate_of_each_table(self):
        for table in tables():
            text = write_table(table)
            paper = certificate(text)
            self.assertIs(type(paper), str)
            self.assertEqual(paper, write_share(quick_share(table)))
            self.assertIs(judge(text, paper), True)
            self.assertIs(judge(text=text, paper=paper), True)

    def test_wholes_of_0_of_30_and_of_300_digits(self):
        for shape in (*QUICK, ((2, 3), (1, 2)), THREE_HANDS, ((3, 2), (3, 2))):
            for table in (Table.empty(shape), full_table(shape, 2, GREAT), full_table(shape, 5, HUGE),
                          two_sign_table(shape, 1, HUGE) if shape in QUICK else any_table(shape, 1, HUGE)):
                text = write_table(table)
                self.assertIs(judge(text, certificate(text)), True)

    def test_every_shape(self):
        for shape in valid_shapes():
            text = write_table(full_table(shape, 6))
            self.assertIs(judge(text, certificate(text)), True)

    def test_papers_changed_by_one_number(self):
        for table in (BOX, quiet_table(SQUARE, 3), quiet_table(((2, 2), (1, 2)), 5), any_table(((1, 3), (2, 2)), 2)):
            text = write_table(table)
            lines = [line.split(" ") for line in certificate(text).split("\n")]
            taken = 0
            for at in range(1, len(lines)):
                for word in range(len(lines[at])):
                    if not lines[at][word].isdigit() or (at > 1 + len(table.rows) and word > 0):
                        continue
                    for by in (-1, 1):
                        changed = deepcopy(lines)
                        changed[at][word] = str(int(changed[at][word]) + by)
                        paper = "\n".join(" ".join(words) for words in changed)
                        error = raised(judge, text, paper)
                        if error is not None:
                            self.assertIs(type(error), InvalidText)
                            self.assertEqual(error.line, at + 1)
                            continue
                        share = read_share(paper)
                        wanted = all(conditions(table, share))
                        self.assertIs(judge(text, paper), wanted)
                        # A cost may change where no amount is: then it is still a share.
                        taken += wanted
                        if wanted:
                            self.assertTrue(2 <= at < 2 + len(table.rows))
            self.assertLess(taken, 20)

    def test_papers_of_other_tables(self):
        shares = [(table, write_share(quick_share(table))) for table in tables()]
        chance = Random(1)
        for table, paper in shares:
            for other, another in chance.sample(shares, 4):
                wanted = table.shape == other.shape and all(conditions(table, read_share(another)))
                self.assertIs(judge(write_table(table), another), wanted)

    def test_all_papers_that_are_taken_have_the_same_fraction(self):
        for table in tables():
            text = write_table(table)
            quick, slow = quick_share(table), plain_share(table)
            tripled = Share(Mixture(table.shape, [(plan, 3 * weight) for plan, weight in slow.mixture]),
                            bottom=3 * slow.bottom, costs=[[3 * cost for cost in row] for row in slow.costs])
            for share in (quick, slow, tripled):
                self.assertIs(judge(text, write_share(share)), True)
                self.assertEqual(share.mixture.total * quick.bottom, quick.mixture.total * share.bottom)

    def test_costs_below_0(self):
        text = "hands 1x2\nwhole 3\n3 0"
        self.assertIs(judge(text, "hands 1x2\nbottom 1\n1 1\n3 0"), True)
        self.assertIs(judge(text, "hands 1x2\nbottom 1\n1 -1\n3 0"), False)
        self.assertIs(judge(text, "hands 1x2\nbottom 1\n1 0\n3 0"), False)
        self.assertIs(judge(text, "hands 1x2\nbottom 1\n1 1\n2 0"), False)
        self.assertIs(judge(text, "hands 1x2\nbottom 1\n1 1"), False)
        self.assertIs(judge(text, "hands 1x2\nbottom 1\n1 1\n3 1"), False)
        self.assertIs(judge(text, "hands 1x3\nbottom 1\n1 1 1\n3 0"), False)


class Errors(unittest.TestCase):
    TEXTS = [("", 1), ("hands 1x2", 2), ("hands 5x2\nwhole 1\n1 0", 1), ("hands 1x2\nwhole 3\n1 1", 3),
             ("hands 1x2\nwhole 3\n1 2\n", 4), ("hands 1x2\nbottom 3\n1 2", 2), (PAPER, 2)]
    PAPERS = [("", 1), ("hands 1x2", 2), ("hands 1x2\nbottom 0\n1 1", 2), ("hands 1x2\nbottom 1\n1 1\n", 4),
              ("hands 1x2\nbottom 1\n1 1\n1 1\n1 0", 5), ("hands 1x2\nbottom 1\n1", 3), (TEXT, 2)]

    def test_wrong_texts(self):
        for text, line in self.TEXTS:
            error = raised(certificate, text)
            self.assertIs(type(error), InvalidText)
            self.assertEqual(error.line, line)
            # Ahead of a wrong paper.
            for paper in ("hands 1x2\nbottom 1\n1 1", *[paper for paper, at in self.PAPERS]):
                error = raised(judge, text, paper)
                self.assertIs(type(error), InvalidText)
                self.assertEqual(error.line, line)

    def test_wrong_papers(self):
        for text in ("hands 1x2\nwhole 3\n1 2", TEXT):
            for paper, line in self.PAPERS:
                error = raised(judge, text, paper)
                self.assertIs(type(error), InvalidText)
                self.assertEqual(error.line, line)

    def test_wrong_numbers(self):
        for word in NO_NUMBERS:
            error = raised(certificate, f"hands 1x2\nwhole {word}\n0 0")
            self.assertIs(type(error), InvalidText)
            self.assertEqual(error.line, 2)
            error = raised(judge, "hands 1x2\nwhole 0\n0 0", f"hands 1x2\nbottom 1\n1 1\n{word} 0")
            self.assertIs(type(error), InvalidText)
            self.assertEqual(error.line, 4)

    def test_a_table_that_is_read_and_written_stays_the_same(self):
        for table in tables():
            self.assertEqual(read_table(write_table(table)), table)
