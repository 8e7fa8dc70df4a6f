"""Promises 20, 115 and 119 to 126: wired tables and wired mixtures."""

import unittest
from copy import deepcopy
from itertools import product
from math import prod

from fardials.errors import InvalidWiring, TellsAcross, WrongShape
from fardials.mixtures import Mixture, mixture_table
from fardials.plainshare import plain_share
from fardials.tables import Table, lies_below, plan_table
from fardials.telling import first_telling
from fardials.trees import leaves
from fardials.wires import wired, wired_mixture
from tests.samples import (BOX, GREAT, SQUARE, any_table, any_trees, context_list, full_table, outcome_list,
                           quiet_table, raised, two_sign_table, weighted_plans)

PAIR = ((1, 2), (1, 2))
TELLS = (("tell", 0), ("tell", 1))
# The left hand asks box 0 first, the right hand box 1, each next at the sign that it has read.
LEFT = [("ask", 0, 0, (("ask", 1, 0, TELLS), ("ask", 1, 1, TELLS)))]
RIGHT = [("ask", 1, 1, (("ask", 0, 0, TELLS), ("ask", 0, 1, TELLS)))]
BOX_SHAPES = [SQUARE, PAIR, ((2, 3), (1, 2)), ((1, 2), (3, 2)), ((1, 3), (2, 3))]
SHAPES = [PAIR, SQUARE, ((1, 3), (2, 2)), ((2, 2), (1, 3)), ((4, 2), (2, 2))]
OTHERS = [((2, 2),), ((1, 2), (1, 2), (1, 2)), ((1, 3), (2, 2), (1, 2))]


def box_amount(box, left, right):
    """The amount of a box as point 119 tells it: left and right are steps (dial, read) or None."""
    context = (left[0] if left else 0, right[0] if right else 0)
    row = dict(zip(outcome_list(box.shape), box.rows[context_list(box.shape).index(context)]))
    return sum(amount for (a, b), amount in row.items()
               if (left is None or a == left[1]) and (right is None or b == right[1]))


def summed(boxes, shape, left, right):
    """The wired table by the sums of point 120, outcome by outcome."""
    rows = []
    for x, y in context_list(shape):
        row = []
        for a, b in outcome_list(shape):
            total = 0
            for (asked, sign), (facing, other) in product(leaves(left[x]), leaves(right[y])):
                if (sign, other) == (a, b):
                    mine = {box: (dial, read) for box, dial, read in asked}
                    theirs = {box: (dial, read) for box, dial, read in facing}
                    total += prod(box_amount(box, mine.get(at), theirs.get(at))
                                  for at, box in enumerate(boxes))
            row.append(total)
        rows.append(row)
    return Table(shape, prod(box.whole for box in boxes), rows)


def lists_of_boxes():
    quiet = [quiet_table(shape, 2) for shape in BOX_SHAPES]
    yield from ([], [BOX], [BOX, BOX], [quiet[2]], quiet[:2], quiet[1:4], [BOX, quiet[4]],
                [quiet[3], BOX, Table.empty(PAIR)], [two_sign_table(SQUARE, 4, 6), BOX, quiet[1], quiet[1]])


def wirings():
    """Boxes, shapes and trees of both hands that fit."""
    for boxes in lists_of_boxes():
        for seed, shape in enumerate(SHAPES):
            yield boxes, shape, any_trees(boxes, 0, shape, seed), any_trees(boxes, 1, shape, seed)


def told(tree, hand, taken):
    """The sign that a tree tells of these plans, found among its leaves."""
    found = [sign for asked, sign in leaves(tree)
             if all(taken[box][hand][dial] == read for box, dial, read in asked)]
    assert len(found) == 1
    return found[0]


def chosen(mixtures, shape, left, right):
    """The pairs of the wired mixture, choice by choice."""
    weights = {}
    for choice in product(*[mixture.pairs for mixture in mixtures]):
        taken = [plan for plan, weight in choice]
        plan = (tuple(told(tree, 0, taken) for tree in left), tuple(told(tree, 1, taken) for tree in right))
        weights[plan] = weights.get(plan, 0) + prod(weight for plan, weight in choice)
    return tuple(sorted(weights.items()))


class Wired(unittest.TestCase):
    def same(self, boxes, shape, left, right):
        table = wired(boxes, shape=shape, left=left, right=right)
        self.assertIs(type(table), Table)
        self.assertEqual(table, summed(boxes, shape, left, right))
        self.assertIsNone(first_telling(table))
        return table

    def test_known_wirings(self):
        table = Table(((2, 2), (2, 2)), 2, [[1, 0, 0, 1], [1, 0, 0, 1], [1, 0, 0, 1], [0, 1, 1, 0]])
        self.assertEqual(wired([table, table], shape=PAIR, left=LEFT, right=RIGHT).rows, ((1, 1, 1, 1),))
        # One box, and each hand asks it at the dial of the shape.
        trees = [("ask", 0, dial, TELLS) for dial in (0, 1)]
        self.assertEqual(wired([BOX], shape=SQUARE, left=trees, right=trees), BOX)
        # The right hand tells the other sign, or asks its dials the other way round.
        swapped = [("ask", 0, dial, TELLS[::-1]) for dial in (0, 1)]
        found = wired([BOX], shape=SQUARE, left=trees, right=swapped)
        self.assertEqual(found.rows, ((0, 1, 1, 0), (0, 1, 1, 0), (0, 1, 1, 0), (1, 0, 0, 1)))
        found = wired([BOX], shape=SQUARE, left=trees, right=trees[::-1])
        self.assertEqual(found.rows, ((1, 0, 0, 1), (1, 0, 0, 1), (0, 1, 1, 0), (1, 0, 0, 1)))

    def test_hands_that_ask_different_boxes(self):
        first = Table(PAIR, 5, [[1, 2, 0, 2]])
        second = Table(PAIR, 7, [[3, 0, 3, 1]])
        found = wired([first, second], shape=PAIR, left=[("ask", 0, 0, TELLS)], right=[("ask", 1, 0, TELLS)])
        # 3 and 2 of 5 by 6 and 1 of 7.
        self.assertEqual((found.whole, found.rows), (35, ((18, 3, 12, 2),)))

    def test_no_boxes(self):
        found = wired([], shape=((1, 2), (2, 3)), left=[("tell", 1)], right=[("tell", 0), ("tell", 2)])
        self.assertEqual(found, plan_table(((1, 2), (2, 3)), ((1,), (0, 2))))

    def test_many_wirings(self):
        for wiring in wirings():
            self.same(*wiring)

    def test_empty_tables_and_great_wholes(self):
        left, right = any_trees([BOX] * 3, 0, SQUARE, 1), any_trees([BOX] * 3, 1, SQUARE, 1)
        self.assertEqual(self.same([BOX, Table.empty(SQUARE), BOX], SQUARE, left, right), Table.empty(SQUARE))
        boxes = [two_sign_table(SQUARE, seed, GREAT) for seed in range(3)]
        self.assertEqual(self.same(boxes, SQUARE, left, right).whole, GREAT ** 3)

    def test_five_boxes(self):
        boxes = [BOX, quiet_table(SQUARE, 1), BOX, two_sign_table(SQUARE, 3), BOX]
        left, right = any_trees(boxes, 0, PAIR, 8), any_trees(boxes, 1, PAIR, 8)
        self.same(boxes, PAIR, left, right)

    def test_a_box_that_no_tree_asks(self):
        for boxes, shape, left, right in wirings():
            for box in (BOX, Table.empty(SQUARE), quiet_table(((1, 3), (2, 3)), 4)):
                found = wired([*boxes, box], shape=shape, left=left, right=right)
                self.assertEqual(found, wired(boxes, shape=shape, left=left, right=right) * box.whole)

    def test_sums_and_products_of_boxes(self):
        for boxes, shape, left, right in wirings():
            for at, box in enumerate(boxes):
                def put(table):
                    return wired([*boxes[:at], table, *boxes[at + 1:]], shape=shape, left=left, right=right)
                more = quiet_table(box.shape, 7)
                self.assertEqual(put(box + more), put(box) + put(more))
                for count in (0, 1, 3, GREAT):
                    self.assertEqual(put(box * count), put(box) * count)

    def test_boxes_in_another_order(self):
        def renumbered(tree, numbers):
            if tree[0] == "tell":
                return tree
            branches = tuple(renumbered(branch, numbers) for branch in tree[3])
            return ("ask", numbers[tree[1]], tree[2], branches)

        for boxes, shape, left, right in wirings():
            many = len(boxes)
            numbers = [(at + 1) % many for at in range(many)]
            moved = [boxes[numbers.index(at)] for at in range(many)]
            found = wired(moved, shape=shape, left=[renumbered(tree, numbers) for tree in left],
                          right=[renumbered(tree, numbers) for tree in right])
            self.assertEqual(found, wired(boxes, shape=shape, left=left, right=right))

    def test_lists_and_tuples_that_are_not_changed(self):
        boxes, left, right = [BOX, BOX], list(LEFT), list(RIGHT)
        before = deepcopy((left, right))
        first = wired(boxes, shape=PAIR, left=left, right=right)
        self.assertEqual((len(boxes), left, right), (2, *before))
        self.same([BOX], SQUARE, [("tell", 0)] * 2, [("tell", 1)] * 2)
        self.assertEqual(wired(tuple(boxes), shape=PAIR, left=tuple(left), right=tuple(right)), first)
        boxes.clear()
        left.clear()
        self.assertEqual(first.rows, ((1, 1, 1, 1),))


class WiredErrors(unittest.TestCase):
    def wrong(self, kind, boxes, shape, left, right):
        error = raised(wired, boxes, shape=shape, left=left, right=right)
        self.assertIs(type(error), kind)
        return error

    def test_shapes(self):
        loud = any_table(SQUARE, 1)
        for shape in OTHERS:
            # Ahead of the other errors.
            for boxes in ([], [BOX, BOX], [loud]):
                self.wrong(WrongShape, boxes, shape, LEFT, RIGHT)
                self.wrong(WrongShape, boxes, shape, [], [])
            for boxes in ([Table.empty(shape)], [BOX, BOX, Table.empty(shape)], [loud, any_table(shape, 1)],
                          [Table.empty(shape), BOX]):
                self.wrong(WrongShape, boxes, PAIR, LEFT, RIGHT)
                self.wrong(WrongShape, boxes, PAIR, [], [("tell", 9)])

    def test_boxes_that_are_not_quiet(self):
        for shape in (SQUARE, ((1, 3), (2, 2)), ((2, 3), (2, 2)), ((2, 2), (4, 2))):
            for seed in range(3):
                loud, louder = full_table(shape, seed), full_table(SQUARE, seed + 5)
                self.assertIsNotNone(first_telling(loud))
                for boxes in ([loud], [BOX, loud, louder], [loud, BOX], [loud, loud]):
                    # Ahead of trees that do not fit.
                    for left in (LEFT, [], [("tell", -1)]):
                        error = self.wrong(TellsAcross, boxes, PAIR, left, RIGHT)
                        self.assertEqual(error.leak, first_telling(loud))
        error = self.wrong(TellsAcross, [BOX, louder, loud], PAIR, LEFT, RIGHT)
        self.assertEqual(error.leak, first_telling(louder))

    def test_trees_that_do_not_fit(self):
        boxes = [BOX, BOX]
        self.assertIsNone(raised(wired, boxes, shape=PAIR, left=LEFT, right=RIGHT))
        for wrong in ([], LEFT * 2, [("tell", 2)], [("tell", -1)], [("say", 0)], [("ask", 2, 0, TELLS)],
                      [("ask", -1, 0, TELLS)], [("ask", 0, 2, TELLS)], [("ask", 0, -1, TELLS)],
                      [("ask", 0, 0, TELLS[:1])], [("ask", 0, 0, (*TELLS, ("tell", 0)))],
                      [("ask", 0, 0, (("ask", 0, 1, TELLS), ("tell", 0)))],
                      [("ask", 1, 0, (("tell", 0), ("ask", 0, 1, (("tell", 0), ("tell", 2)))))]):
            self.wrong(InvalidWiring, boxes, PAIR, wrong, RIGHT)
            self.wrong(InvalidWiring, boxes, PAIR, LEFT, wrong)

    def test_each_hand_has_its_own_side(self):
        box = quiet_table(((1, 3), (2, 2)), 1)
        three = ("ask", 0, 0, (*TELLS, ("tell", 0)))
        two = ("ask", 0, 1, TELLS)
        self.assertIsNone(raised(wired, [box], shape=PAIR, left=[three], right=[two]))
        self.wrong(InvalidWiring, [box], PAIR, [two], [three])
        shape = ((1, 3), (2, 2))
        self.assertIsNone(raised(wired, [], shape=shape, left=[("tell", 2)], right=[("tell", 1)] * 2))
        self.wrong(InvalidWiring, [], shape, [("tell", 2)] * 2, [("tell", 1)])
        self.wrong(InvalidWiring, [], shape, [("tell", 2)], [("tell", 2)] * 2)


class WiredMixture(unittest.TestCase):
    def same(self, mixtures, shape, left, right):
        found = wired_mixture(mixtures, shape=shape, left=left, right=right)
        self.assertIs(type(found), Mixture)
        self.assertEqual(found.shape, shape)
        self.assertEqual(found.pairs, chosen(mixtures, shape, left, right))
        tables = [mixture_table(mixture) for mixture in mixtures]
        self.assertEqual(mixture_table(found), wired(tables, shape=shape, left=left, right=right))
        return found

    def test_known_wirings(self):
        mixture = Mixture(SQUARE, [(((0, 1), (0, 0)), 2), (((1, 1), (0, 1)), 3)])
        trees = [("ask", 0, dial, TELLS) for dial in (0, 1)]
        self.assertEqual(self.same([mixture], SQUARE, trees, trees).pairs, mixture.pairs)
        found = self.same([mixture, mixture], PAIR, LEFT, RIGHT)
        # Both plans agree at dial 1 of hand 0 and at dial 0 of hand 1, so the choices are four:
        # the left hand reads 0 and then 0 or 1, or 1 and then 1; the right hand reads 0 or 1 first.
        self.assertEqual(found.pairs, ((((0,), (0,)), 4), (((1,), (0,)), 6 + 6), (((1,), (1,)), 9)))

    def test_no_mixtures(self):
        shape = ((1, 2), (2, 3))
        found = self.same([], shape, [("tell", 1)], [("tell", 0), ("tell", 2)])
        self.assertEqual(found.pairs, ((((1,), (0, 2)), 1),))

    def test_many_wirings(self):
        for seed, boxes in enumerate(lists_of_boxes()):
            mixtures = [Mixture(box.shape, weighted_plans(box.shape, seed + at)[:6])
                        for at, box in enumerate(boxes)]
            for shape in SHAPES:
                self.same(mixtures, shape, any_trees(boxes, 0, shape, seed), any_trees(boxes, 1, shape, seed))

    def test_a_mixture_without_pairs(self):
        full = Mixture(SQUARE, [(((0, 1), (0, 0)), 2)])
        for mixtures in ([Mixture(SQUARE, []), full], [full, Mixture(SQUARE, [])]):
            self.assertEqual(self.same(mixtures, PAIR, LEFT, RIGHT).pairs, ())
            tells = [("tell", 0)]
            self.assertEqual(self.same(mixtures, PAIR, tells, tells).pairs, ())

    def test_great_weights_and_many_choices(self):
        plan = ((0, 1), (1, 1))
        mixtures = [Mixture(SQUARE, [(plan, GREAT)])] * 2
        self.assertEqual(self.same(mixtures, PAIR, LEFT, RIGHT).total, GREAT ** 2)
        pairs = [(((a, b), (c, d)), 1 + a + b) for a, b, c, d in product((0, 1), repeat=4)]
        mixtures = [Mixture(SQUARE, pairs)] * 3
        self.same(mixtures, SQUARE, any_trees(mixtures, 0, SQUARE, 3), any_trees(mixtures, 1, SQUARE, 3))
        # 4096 choices: a box that no tree asks counts, too.
        mixtures = [Mixture(SQUARE, pairs[:8])] * 4
        self.assertEqual(self.same(mixtures, PAIR, LEFT, RIGHT).total, mixtures[0].total ** 4)

    def test_lists_and_tuples_that_are_not_changed(self):
        mixtures, left, right = [Mixture(SQUARE, weighted_plans(SQUARE, 3))] * 2, list(LEFT), list(RIGHT)
        first = wired_mixture(mixtures, shape=PAIR, left=left, right=right)
        self.assertEqual((len(mixtures), left, right), (2, LEFT, RIGHT))
        self.same([], PAIR, [("tell", 1)], [("tell", 0)])
        found = wired_mixture(tuple(mixtures), shape=PAIR, left=tuple(left), right=tuple(right))
        self.assertEqual(found.pairs, first.pairs)

    def test_tables_below_multiples_of_boxes(self):
        for boxes, shape, left, right in wirings():
            shares = [plain_share(box) for box in boxes]
            found = wired_mixture([share.mixture for share in shares], shape=shape, left=left, right=right)
            bottom = prod(share.bottom for share in shares)
            table = wired(boxes, shape=shape, left=left, right=right)
            self.assertTrue(lies_below(mixture_table(found), table * bottom))
            best = plain_share(table)
            total = prod(share.mixture.total for share in shares)
            self.assertGreaterEqual(best.mixture.total * bottom, total * best.bottom)


class WiredMixtureErrors(unittest.TestCase):
    def wrong(self, kind, mixtures, shape, left, right):
        self.assertIs(type(raised(wired_mixture, mixtures, shape=shape, left=left, right=right)), kind)

    def test_shapes(self):
        full = Mixture(SQUARE, weighted_plans(SQUARE, 1))
        for shape in OTHERS:
            for left in (LEFT, [], [("tell", 5)]):
                self.wrong(WrongShape, [full, full], shape, left, RIGHT)
                self.wrong(WrongShape, [], shape, left, RIGHT)
                self.wrong(WrongShape, [full, full, Mixture(shape, [])], PAIR, left, RIGHT)
                self.wrong(WrongShape, [Mixture(shape, []), full], PAIR, left, RIGHT)

    def test_trees_that_do_not_fit(self):
        for mixtures in ([Mixture(SQUARE, weighted_plans(SQUARE, 1))] * 2, [Mixture(SQUARE, [])] * 2):
            for wrong in ([], LEFT * 2, [("tell", 2)], [("tell", -1)], [("say", 0)], [("ask", 2, 0, TELLS)],
                          [("ask", -1, 0, TELLS)], [("ask", 0, 2, TELLS)], [("ask", 0, -1, TELLS)],
                          [("ask", 0, 0, TELLS[:1])], [("ask", 0, 0, (*TELLS, ("tell", 0)))],
                          [("ask", 0, 0, (("ask", 0, 1, TELLS), ("tell", 0)))]):
                self.wrong(InvalidWiring, mixtures, PAIR, wrong, RIGHT)
                self.wrong(InvalidWiring, mixtures, PAIR, LEFT, wrong)

    def test_each_hand_has_its_own_side(self):
        mixture = Mixture(((1, 3), (2, 2)), [(((2,), (0, 1)), 4)])
        three, two = ("ask", 0, 0, (*TELLS, ("tell", 0))), ("ask", 0, 1, TELLS)
        found = wired_mixture([mixture], shape=PAIR, left=[three], right=[two])
        self.assertEqual(found.pairs, ((((0,), (1,)), 4),))
        self.wrong(InvalidWiring, [mixture], PAIR, [two], [three])


class Samples(unittest.TestCase):
    def test_boxes_are_quiet_and_trees_ask_in_different_orders(self):
        orders = set()
        for boxes, shape, left, right in wirings():
            self.assertEqual([first_telling(box) for box in boxes], [None] * len(boxes))
            orders.update(tuple(box for box, dial, read in asked)
                          for tree in left for asked, sign in leaves(tree))
        self.assertGreater(len(orders), 20)
