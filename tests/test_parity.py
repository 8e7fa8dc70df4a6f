"""Promises 20 and 136 to 140: plans with asked parities, odd sets and parity tables."""

import unittest
from copy import deepcopy
from itertools import product
from random import Random

from fardials.errors import InvalidAsked, WrongShape
from fardials.mixtures import Mixture, mixture_table
from fardials.parity import parity_answer, parity_table
from fardials.plainshare import plain_share
from fardials.plans import is_plan, plan_outcome, plans
from fardials.squares import box, ways
from fardials.tables import Table, lies_below, plan_table
from fardials.telling import first_telling
from tests.samples import BOX, FULL_SHAPES, GREAT, SQUARE, context_list, outcome_list, raised, valid_shapes

SHAPES = [shape for shape in valid_shapes() if all(signs == 2 for dials, signs in shape)]
OTHERS = [((2, 3),), ((1, 3), (2, 2)), ((2, 2), (1, 3)), ((1, 2), (1, 2), (1, 3)), ((1, 2), (1, 3), (1, 2)),
          ((1, 3), (1, 3))]


def kept(plan, asked):
    return all(sum(plan_outcome(plan, context)) % 2 == want for context, want in asked)


def is_odd_set(shape, asked, indexes):
    pairs = [asked[at] for at in indexes]
    counts = [sum(context[hand] == dial for context, want in pairs)
              for hand, (dials, signs) in enumerate(shape) for dial in range(dials)]
    return all(count % 2 == 0 for count in counts) and sum(want for context, want in pairs) % 2 == 1


def any_asked(shape, seed, many):
    """Pairs of which a plan keeps all, most, or not more than others."""
    chance = Random(seed)
    plan = chance.choice(list(plans(shape)))
    turned = chance.choice((0, 0.05, 0.5))
    found = []
    for _ in range(many):
        context = chance.choice(context_list(shape))
        found.append((context, (sum(plan_outcome(plan, context)) + (chance.random() < turned)) % 2))
    return found


class ParityAnswer(unittest.TestCase):
    def same(self, shape, asked):
        """Tests the answer by the definitions, and returns its first word."""
        answer = parity_answer(shape, asked)
        self.assertIs(type(answer), tuple)
        word, found = answer
        exists = any(kept(plan, asked) for plan in plans(shape))
        self.assertIs(type(found), tuple)
        if exists:
            self.assertEqual(word, "plan")
            self.assertTrue(is_plan(shape, found))
            self.assertEqual({type(row) for row in found}, {tuple})
            self.assertTrue(kept(found, asked))
        else:
            self.assertEqual(word, "odd")
            self.assertEqual(list(found), sorted(set(found)))
            self.assertTrue(set(found) <= set(range(len(asked))))
            self.assertTrue(is_odd_set(shape, asked, found))
        return word

    def test_known_answers(self):
        asked = [(context, int(context == (1, 1))) for context in context_list(SQUARE)]
        self.assertEqual(parity_answer(SQUARE, asked), ("odd", (0, 1, 2, 3)))
        self.assertEqual(self.same(SQUARE, asked[:3]), "plan")
        self.assertEqual(self.same(SQUARE, asked[1:]), "plan")
        self.assertEqual(parity_answer(((2, 2),), [((1,), 1), ((0,), 0)]), ("plan", ((0, 1),)))
        self.assertEqual(parity_answer(((2, 2),), [((1,), 1), ((0,), 1), ((1,), 0)]), ("odd", (0, 2)))
        # The pair that makes an odd set stands in the middle.
        asked = [((0, 0), 1), ((0, 1), 0), ((0, 1), 1), ((1, 1), 0)]
        self.assertEqual(parity_answer(SQUARE, asked), ("odd", (1, 2)))

    def test_no_pairs(self):
        for shape in SHAPES:
            self.assertEqual(self.same(shape, []), "plan")
            self.assertEqual(self.same(shape, ()), "plan")

    def test_every_choice_of_wants(self):
        for shape in (SQUARE, ((3, 2),), ((1, 2), (3, 2)), ((2, 2), (1, 2), (2, 2))):
            words = set()
            for wants in product((0, 1), repeat=len(context_list(shape))):
                words.add(self.same(shape, list(zip(context_list(shape), wants))))
            self.assertEqual(len(words), 1 if shape in (((3, 2),), ((1, 2), (3, 2))) else 2)

    def test_many_pairs(self):
        words = set()
        for shape in SHAPES:
            for seed in range(6):
                for many in (1, 2, 3, 5, 9, 20, 60):
                    words.add((self.same(shape, any_asked(shape, seed, many)), many))
        # One pair alone is never an odd set.
        self.assertEqual(len(words), 13)
        self.assertNotIn(("odd", 1), words)

    def test_a_context_in_several_pairs(self):
        for shape in SHAPES:
            context = context_list(shape)[-1]
            for want in (0, 1):
                self.assertEqual(self.same(shape, [(context, want)] * 60), "plan")
                asked = [(context, want)] * 59 + [(context, 1 - want)]
                self.assertEqual(self.same(shape, asked), "odd")

    def test_exactly_one_of_both_exists(self):
        for seed in range(30):
            asked = any_asked(SQUARE, seed, 6)
            odd = any(is_odd_set(SQUARE, asked, [at for at in range(6) if bits[at]])
                      for bits in product((0, 1), repeat=6))
            self.assertEqual(self.same(SQUARE, asked), "odd" if odd else "plan")

    def test_lists_and_tuples_that_are_not_changed(self):
        asked = any_asked(SQUARE, 1, 9)
        before = deepcopy(asked)
        first = parity_answer(SQUARE, asked)
        self.assertEqual(asked, before)
        parity_answer(((2, 2),), [((1,), 1), ((0,), 1), ((1,), 0)])
        self.assertEqual(parity_answer(SQUARE, tuple(asked)), first)


class ParityTable(unittest.TestCase):
    def same(self, shape, kinds):
        table = parity_table(shape, kinds)
        self.assertIs(type(table), Table)
        rows = tuple(tuple(int(sum(outcome) % 2 == kind) for outcome in outcome_list(shape)) for kind in kinds)
        self.assertEqual((table.shape, table.whole, table.rows), (shape, 2 ** (len(shape) - 1), rows))
        self.assertIsNone(first_telling(table))
        return table

    def all_kinds(self, shape):
        every = list(product((0, 1), repeat=len(context_list(shape))))
        return every if len(every) <= 64 else Random(1).sample(every, 12)

    def test_known_tables(self):
        self.assertEqual(parity_table(SQUARE, (0, 0, 0, 1)), BOX)
        self.assertEqual([parity_table(SQUARE, way) for way in ways()], [box(way) for way in ways()])
        self.assertEqual(parity_table(((2, 2),), [1, 0]).rows, ((0, 1), (1, 0)))
        self.assertEqual(parity_table(((1, 2), (1, 2), (1, 2)), [1]).rows, ((0, 1, 1, 0, 1, 0, 0, 1),))

    def test_one_two_and_three_hands(self):
        for shape in SHAPES:
            for kinds in self.all_kinds(shape):
                self.assertEqual(self.same(shape, kinds), self.same(shape, list(kinds)))

    def test_the_greatest_plain_share(self):
        words = set()
        for shape in (SQUARE, ((2, 2),), ((2, 2), (3, 2)), ((1, 2), (2, 2), (2, 2)), ((2, 2), (2, 2), (2, 2))):
            for kinds in self.all_kinds(shape)[:24]:
                table = self.same(shape, kinds)
                word, found = parity_answer(shape, list(zip(context_list(shape), kinds)))
                words.add(word)
                share = plain_share(table)
                if word == "odd":
                    self.assertEqual(share.mixture.total, 0)
                    self.assertFalse(any(lies_below(plan_table(shape, plan), table) for plan in plans(shape)))
                    continue
                self.assertEqual(share.mixture.total, share.bottom * table.whole)
                # The plan with the signs of an even number of hands exchanged.
                pairs = [(tuple(tuple(sign ^ turn for sign in row) for row, turn in zip(found, turns)), 1)
                         for turns in product((0, 1), repeat=len(shape)) if sum(turns) % 2 == 0]
                self.assertEqual(mixture_table(Mixture(shape, sorted(pairs))), table)
        self.assertEqual(words, {"plan", "odd"})


class Errors(unittest.TestCase):
    def test_other_shapes_ahead_of_wrong_arguments(self):
        for shape in OTHERS:
            right = [(context, 0) for context in context_list(shape)]
            for asked in ([], right, [*right, ((9,) * len(shape), 0)], [(right[0][0], 2)]):
                self.assertIs(type(raised(parity_answer, shape, asked)), WrongShape)
            for kinds in ([0] * len(right), [], [2], [0, 1, 2, 3, 4]):
                self.assertIs(type(raised(parity_table, shape, kinds)), WrongShape)

    def test_asked_pairs(self):
        for shape in (SQUARE, ((2, 2),), ((1, 2), (4, 2)), *FULL_SHAPES):
            first, last = context_list(shape)[0], context_list(shape)[-1]
            right = [(first, 0), (first, 1), (last, 1)]
            wrong = [(last, 2), (last, -1), (first, GREAT), ((), 0), (first[1:], 1), ((*last, 0), 0),
                     ((-1, *first[1:]), 0), ((*last[:-1], last[-1] + 1), 1), ((GREAT, *first[1:]), 0)]
            for pair in wrong:
                for at in range(4):
                    asked = [*right[:at], pair, *right[at:]]
                    for passed in (asked, tuple(asked), [*asked, pair], [*asked, wrong[3]]):
                        error = raised(parity_answer, shape, passed)
                        self.assertIs(type(error), InvalidAsked)
                        self.assertEqual(error.at, at)
            # Ahead of an odd set that could be found before the wrong pair.
            self.assertEqual(raised(parity_answer, shape, [(first, 0), (first, 1), (first, 2)]).at, 2)

    def test_kinds(self):
        for shape in (SQUARE, ((2, 2),), ((1, 2), (4, 2)), *FULL_SHAPES):
            many = len(context_list(shape))
            for kinds in ([], [0] * (many - 1), [0] * (many + 1), [2] * (many + 1), [0] * 2 * many):
                error = raised(parity_table, shape, kinds)
                self.assertIs(type(error), InvalidAsked)
                self.assertEqual(error.at, -1)
            for at in range(many):
                for kind in (2, -1, GREAT, -GREAT):
                    kinds = [at % 2] * at + [kind] * (many - at)
                    for passed in (kinds, tuple(kinds), [*kinds[:at + 1], *[0] * (many - at - 1)]):
                        error = raised(parity_table, shape, passed)
                        self.assertIs(type(error), InvalidAsked)
                        self.assertEqual(error.at, at)
