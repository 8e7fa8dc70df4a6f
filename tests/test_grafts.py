"""Promises 20 and 127 to 130: grafted trees."""

import unittest
from copy import deepcopy
from itertools import accumulate
from random import Random

from fardials.errors import InvalidWiring
from fardials.grafts import grafted
from fardials.tables import Table
from fardials.trees import leaves
from fardials.wires import wired
from tests.samples import (BOX, GREAT, SQUARE, any_tree, any_trees, quiet_table, raised, two_sign_table)

PAIR = ((1, 2), (1, 2))
TELLS = (("tell", 0), ("tell", 1))


def followed(tree, trees, inner, starts, path):
    """The leaves of a grafted tree, told by following outer and inner leaves together."""
    if tree[0] == "tell":
        return [(path, tree[1])]
    found = []
    _, box, dial, branches = tree
    for asked, sign in leaves(inner[box][dial]):
        steps = tuple((starts[box] + number, turned, read) for number, turned, read in asked)
        found += followed(branches[sign], trees, inner, starts, path + steps)
    return found


def inner_wirings():
    """Lists of inner wirings: boxes, the shape and the trees of both hands."""
    quiet = quiet_table(((1, 3), (2, 2)), 3)
    lists = [[[BOX], [BOX]], [[BOX, quiet], []], [[], [BOX]], [[two_sign_table(SQUARE, 2), BOX], [quiet], [BOX]],
             [[quiet, BOX, two_sign_table(PAIR, 1)]], [[BOX], [], [BOX, two_sign_table(SQUARE, 5, 6)]]]
    shapes = [SQUARE, ((1, 3), (2, 2)), ((2, 2), (1, 3))]
    for seed, boxes in enumerate(lists):
        for turned in range(3):
            yield [(inner, shapes[(at + turned) % 3], any_trees(inner, 0, shapes[(at + turned) % 3], seed + at),
                    any_trees(inner, 1, shapes[(at + turned) % 3], seed + at))
                   for at, inner in enumerate(boxes)]


class Grafted(unittest.TestCase):
    def same(self, trees, inner, counts):
        found = grafted(trees, inner, counts=counts)
        self.assertIs(type(found), list)
        self.assertEqual(len(found), len(trees))
        starts = [0, *accumulate(counts)]
        for tree, outer in zip(found, trees):
            self.assertIs(type(tree), tuple)
            self.assertEqual(list(leaves(tree)), followed(outer, trees, inner, starts, ()))
        return found

    def test_known_grafts(self):
        inner = [[("ask", 0, 1, TELLS)], [("tell", 1), ("ask", 1, 0, (("ask", 0, 2, TELLS), ("tell", 0)))]]
        trees = [("ask", 0, 0, (("tell", 5), ("ask", 1, 1, (("tell", 3), ("tell", 4))))), ("tell", 7)]
        found = self.same(trees, inner, [2, 3])
        self.assertEqual(found, [
            ("ask", 0, 1, (("tell", 5), ("ask", 3, 0, (("ask", 2, 2, (("tell", 3), ("tell", 4))), ("tell", 3))))),
            ("tell", 7)])
        # An inner tree of one tell: the ask is gone.
        self.assertEqual(self.same([("ask", 1, 0, (("tell", 8), ("tell", 9)))], inner, [2, 3]), [("tell", 9)])
        self.assertEqual(self.same([("ask", 0, 0, TELLS[::-1])], inner, (0 + 1, 2)),
                         [("ask", 0, 1, (("tell", 1), ("tell", 0)))])

    def test_trees_that_tell_alone(self):
        for trees in ([], [("tell", 0)], [("tell", 2), ("tell", -1), ("tell", GREAT)]):
            self.assertEqual(self.same(trees, [], []), trees)
            self.assertEqual(self.same(trees, [[("tell", 3)]], [4]), trees)

    def test_the_numbers_of_boxes(self):
        inner = [[("ask", count - 1, 0, TELLS)] for count in (1, 2, 3, 1, 2)]
        for at, number in enumerate((0, 2, 5, 6, 8)):
            found = self.same([("ask", at, 0, TELLS)], inner, [1, 2, 3, 1, 2])
            self.assertEqual(found, [("ask", number, 0, TELLS)])

    def test_a_count_of_0(self):
        inner = [[("tell", 0)], [("tell", 1), ("tell", 0)], [("ask", 0, 0, TELLS)]]
        trees = [("ask", 0, 0, (("ask", 1, 0, (("tell", 0), ("ask", 2, 0, TELLS))), ("tell", 1)))]
        self.assertEqual(self.same(trees, inner, [0, 0, 1]), [("ask", 0, 0, TELLS)])

    def test_a_branch_that_occurs_twice_and_twelve_asks(self):
        tree = ("tell", 1)
        for box in range(12):
            tree = ("ask", box, 0, (tree, tree))
        inner = [[("ask", 0, 0, TELLS)] for _ in range(12)]
        self.assertEqual(self.same([tree], inner, [1] * 12), [tree])
        chain = ("tell", 0)
        for box in reversed(range(6)):
            chain = ("ask", box, 0, (chain, ("tell", 1)))
        inner = [[("ask", 1, 1, (("ask", 0, 0, TELLS), ("tell", 0)))] for _ in range(6)]
        found = self.same([chain], inner, [2] * 6)
        self.assertEqual(max(len(asked) for asked, sign in leaves(found[0])), 12)

    def test_signs_of_branches(self):
        # An ask with three branches, of which the inner tree tells two.
        inner = [[("ask", 0, 0, (("tell", 2), ("tell", 0)))]]
        trees = [("ask", 0, 0, (("tell", 5), ("tell", 6), ("tell", 7)))]
        self.assertEqual(self.same(trees, inner, [1]), [("ask", 0, 0, (("tell", 7), ("tell", 5)))])

    def test_many_trees(self):
        for seed in range(40):
            chance = Random(seed)
            counts = [chance.randrange(3) for _ in range(3)]
            sides = [(chance.randrange(1, 4), chance.randrange(2, 4)) for _ in counts]
            inner = [[any_tree(chance, [(2, 2), (1, 3)][:count], signs, list(range(count)))
                      for _ in range(dials)] for count, (dials, signs) in zip(counts, sides)]
            trees = [any_tree(chance, sides, 2, [0, 1, 2]) for _ in range(3)]
            self.same(trees, inner, counts)

    def test_lists_and_tuples_that_are_not_changed(self):
        inner = [[("ask", 0, 1, TELLS)], [("tell", 1), ("tell", 0)]]
        trees, counts = [("ask", 0, 0, (("ask", 1, 1, TELLS), ("tell", 1)))], [1, 0]
        before = deepcopy((trees, inner, counts))
        first = self.same(trees, inner, counts)
        self.assertEqual((trees, inner, counts), before)
        self.same([("ask", 0, 0, TELLS)], [[("tell", 1)]], [0])
        for kind in (list, tuple):
            found = grafted(kind(trees), kind(map(kind, inner)), counts=kind(counts))
            self.assertEqual(found, first)
            self.assertIs(type(found), list)
        first.clear()
        trees.append(("tell", 0))
        self.assertEqual(len(grafted(trees, inner, counts=counts)), 2)


class OneWiring(unittest.TestCase):
    def test_wiring_the_inner_boxes_gives_the_same_table(self):
        for wirings in inner_wirings():
            boxes = [box for inner in wirings for box in inner[0]]
            counts = [len(inner[0]) for inner in wirings]
            outer = [wired(inner, shape=shape, left=left, right=right) for inner, shape, left, right in wirings]
            for seed, shape in enumerate((PAIR, SQUARE, ((1, 3), (2, 2)))):
                left, right = any_trees(outer, 0, shape, seed), any_trees(outer, 1, shape, seed)
                found = wired(boxes, shape=shape,
                              left=grafted(left, [inner[2] for inner in wirings], counts=counts),
                              right=grafted(right, [inner[3] for inner in wirings], counts=counts))
                self.assertEqual(found, wired(outer, shape=shape, left=left, right=right))

    def test_outer_boxes_that_are_empty(self):
        inner = [("ask", 0, dial, TELLS) for dial in (0, 1)]
        trees = [("ask", 0, 1, TELLS)]
        found = wired([Table.empty(SQUARE)], shape=PAIR, left=grafted(trees, [inner], counts=[1]),
                      right=grafted(trees, [inner], counts=[1]))
        self.assertEqual(found, Table.empty(PAIR))


class Errors(unittest.TestCase):
    def wrong(self, trees, inner, counts):
        self.assertIs(type(raised(grafted, trees, inner, counts=counts)), InvalidWiring)

    def right(self, trees, inner, counts):
        self.assertIsNone(raised(grafted, trees, inner, counts=counts))

    def everywhere(self, tree, inner, counts, test):
        """Tests a tree alone, beside others, and deep in branches, also where no sign leads to it."""
        fits = ("ask", 0, 0, TELLS)
        for trees in ([tree], [fits, tree], [("ask", 0, 0, (("tell", 0), tree))],
                      [("ask", 0, 0, (fits, ("ask", 0, 0, (tree, fits))))],
                      [("ask", 1, 0, (("tell", 0), tree))]):
            test(trees, inner, counts)

    def test_lengths_that_differ(self):
        for trees in ([], [("tell", 0)], [("ask", 0, 0, TELLS)]):
            self.wrong(trees, [[("tell", 0)]], [])
            self.wrong(trees, [[("tell", 0)]], [0, 1])
            self.wrong(trees, [], [0])
            self.wrong(trees, [[("tell", 0)], [("tell", 0)]], [0])

    def test_boxes_and_dials_that_are_not_there(self):
        # The second inner wiring tells 0 alone, so nothing leads to a branch behind the sign 1.
        inner, counts = [[("ask", 0, 1, TELLS)], [("tell", 0), ("tell", 1)]], [1, 0]
        for box, dial in ((2, 0), (-1, 0), (-2, 0), (GREAT, 0), (0, 1), (0, -1), (1, 2), (1, -1), (1, -2),
                          (0, GREAT)):
            self.everywhere(("ask", box, dial, TELLS), inner, counts, self.wrong)
        for box, dial in ((0, 0), (1, 0), (1, 1)):
            self.everywhere(("ask", box, dial, TELLS), inner, counts, self.right)
        self.wrong([("ask", 0, 0, TELLS)], [], [])
        self.wrong([("ask", 0, 0, TELLS)], [[]], [1])

    def test_inner_trees_that_ask_other_boxes(self):
        for box, count, test in ((1, 1, self.wrong), (-1, 1, self.wrong), (0, 0, self.wrong), (2, 2, self.wrong),
                                 (GREAT, 3, self.wrong), (0, 1, self.right), (1, 2, self.right)):
            for tree in (("ask", box, 0, TELLS), ("ask", 0, 0, (("tell", 1), ("ask", box, 5, TELLS)))):
                inner = [[("ask", 0, 0, TELLS)], [("tell", 0)], [("tell", 1), tree]]
                self.everywhere(("ask", 2, 1, TELLS), inner, [1, 0, count], test)
        # An ask without branches has no path, but it asks a box.
        self.wrong([("ask", 0, 0, TELLS)], [[("ask", 1, 0, ())]], [1])

    def test_inner_trees_that_tell_a_sign_without_branch(self):
        for sign, branches, test in ((2, 2, self.wrong), (-1, 2, self.wrong), (1, 1, self.wrong),
                                     (GREAT, 2, self.wrong), (0, 0, self.wrong), (1, 2, self.right),
                                     (2, 3, self.right), (0, 1, self.right)):
            for tree in (("tell", sign), ("ask", 0, 0, (("tell", 0), ("tell", sign))),
                         ("ask", 0, 0, (("ask", 1, 0, (("tell", sign), ("tell", 0))), ("tell", 0)))):
                inner = [[("ask", 0, 0, TELLS)], [("tell", 0)], [("tell", 1), tree]]
                self.everywhere(("ask", 2, 1, (("tell", 0),) * branches), inner, [1, 0, 2], test)

    def test_nothing_else_is_checked(self):
        # An inner tree that no outer tree asks, and one that asks a box twice.
        inner = [[("ask", 0, 0, TELLS), ("ask", 9, 9, (("tell", 9),)), ("tell", -4)]]
        self.right([("ask", 0, 0, TELLS), ("tell", 44)], inner, [1])
        twice = ("ask", 0, 7, (("ask", 0, -7, TELLS), ("tell", 0)))
        self.assertEqual(grafted([("ask", 0, 0, (("tell", -1), ("tell", 50)))], [[twice]], counts=[1]),
                         [("ask", 0, 7, (("ask", 0, -7, (("tell", -1), ("tell", 50))), ("tell", -1)))])
        asks = [("ask", 0, 0, (("ask", 0, 0, TELLS), ("tell", 0)))]
        self.assertEqual(grafted(asks, [[("ask", 0, 0, TELLS)]], counts=[1]), asks)
