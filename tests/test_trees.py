"""Promises 20 and 115 to 118: leaves, and trees that fit."""

import unittest
from inspect import isgenerator
from random import Random

from fardials.errors import InvalidWiring
from fardials.mixtures import Mixture
from fardials.tables import Table
from fardials.trees import check_trees, leaves
from tests.samples import BOX, GREAT, SQUARE, any_tree, any_trees, raised

TELLS = (("tell", 0), ("tell", 1))
EXAMPLE = ("ask", 1, 0, (("tell", 1), ("ask", 0, 1, TELLS)))
# A box with other dials and signs for each hand.
LOPSIDED = Table.empty(((3, 2), (1, 3)))
BOXES = [BOX, LOPSIDED, Table.empty(((1, 3), (2, 2)))]
SHAPE = ((1, 3), (2, 2))


def paths(tree):
    """The leaves of a tree, told by a walk that keeps the rest of the work on a list."""
    found, work = [], [((), tree)]
    while work:
        asked, node = work.pop()
        if node[0] == "tell":
            found.append((asked, node[1]))
            continue
        for read in reversed(range(len(node[3]))):
            work.append(((*asked, (node[1], node[2], read)), node[3][read]))
    return found


def deep(tree, box=0, dial=0, many=2):
    """An ask that has this tree behind each of its branches but the first."""
    return ("ask", box, dial, (("tell", 0),) + (tree,) * (many - 1))


class Leaves(unittest.TestCase):
    def test_known_trees(self):
        self.assertEqual(list(leaves(("tell", 2))), [((), 2)])
        self.assertEqual(list(leaves(EXAMPLE)), [
            (((1, 0, 0),), 1), (((1, 0, 1), (0, 1, 0)), 0), (((1, 0, 1), (0, 1, 1)), 1)])
        tree = ("ask", 0, 3, (("ask", 2, 1, (("tell", 0), ("tell", 2), ("tell", 1))), ("tell", 0)))
        self.assertEqual(list(leaves(tree)), [
            (((0, 3, 0), (2, 1, 0)), 0), (((0, 3, 0), (2, 1, 1)), 2), (((0, 3, 0), (2, 1, 2)), 1),
            (((0, 3, 1),), 0)])

    def test_kinds_of_values(self):
        for leaf in leaves(EXAMPLE):
            asked, sign = leaf
            self.assertEqual((type(leaf), type(asked), type(sign)), (tuple, tuple, int))
            self.assertEqual({type(step) for step in asked}, {tuple})

    def test_many_trees(self):
        for seed in range(60):
            chance = Random(seed)
            sides = [(chance.randrange(1, 5), chance.randrange(2, 4)) for _ in range(4)]
            tree = any_tree(chance, sides, 3, list(range(4)))
            self.assertEqual(list(leaves(tree)), paths(tree))

    def test_nothing_is_checked(self):
        tree = ("ask", -1, GREAT, (("tell", -5), ("ask", -1, GREAT, (("tell", GREAT),)), ("tell", 3)))
        self.assertEqual(list(leaves(tree)), [
            (((-1, GREAT, 0),), -5), (((-1, GREAT, 1), (-1, GREAT, 0)), GREAT), (((-1, GREAT, 2),), 3)])
        self.assertEqual(list(leaves(("ask", 0, 0, ()))), [])

    def test_twelve_asks_on_a_path(self):
        tree = ("tell", 1)
        for box in range(12):
            # The same branch occurs twice.
            tree = ("ask", box, 0, (tree, tree))
        found = list(leaves(tree))
        self.assertEqual(len(found), 4096)
        self.assertEqual(found, paths(tree))
        self.assertEqual(found, sorted(found))

    def test_a_generator_in_part_and_twice(self):
        found = leaves(EXAMPLE)
        self.assertTrue(isgenerator(found))
        self.assertEqual(next(found), (((1, 0, 0),), 1))
        self.assertEqual(len(list(leaves(EXAMPLE))), 3)
        self.assertEqual(len(list(found)), 2)


class CheckTrees(unittest.TestCase):
    def fits(self, trees, hand=0, boxes=BOXES, shape=SHAPE):
        self.assertIsNone(check_trees(trees, hand, boxes, shape))

    def misfits(self, trees, hand=0, boxes=BOXES, shape=SHAPE):
        self.assertIs(type(raised(check_trees, trees, hand, boxes, shape)), InvalidWiring)

    def test_trees_that_fit(self):
        self.fits([("tell", 2)])
        self.fits([("ask", 1, 2, (("tell", 2), ("tell", 0)))])
        self.fits([("ask", 2, 0, (("tell", 0), ("ask", 0, 1, TELLS), ("ask", 1, 2, TELLS)))])
        self.fits([("tell", 1), ("ask", 1, 0, (("tell", 0), ("tell", 1), ("ask", 2, 1, TELLS)))], hand=1)
        self.fits([("tell", 0)], boxes=[])
        self.fits([("tell", 0), ("tell", 1)], hand=1, boxes=[])

    def test_lists_and_tuples_and_mixtures(self):
        trees = [("ask", 1, 2, (("tell", 2), ("tell", 0)))]
        mixtures = [Mixture(box.shape, []) for box in BOXES]
        for boxes in (BOXES, tuple(BOXES), mixtures, tuple(mixtures), [BOXES[0], *mixtures[1:]]):
            self.fits(trees, boxes=boxes)
            self.fits(tuple(trees), boxes=boxes)
            self.misfits([("ask", 1, 3, TELLS)], boxes=boxes)
            self.misfits((("ask", 1, 0, TELLS),), hand=1, boxes=boxes)

    def test_any_trees(self):
        for seed in range(40):
            for hand in (0, 1):
                self.fits(any_trees(BOXES, hand, SHAPE, seed), hand)

    def test_by_keyword(self):
        self.assertIsNone(check_trees(trees=[("tell", 0)], hand=0, boxes=[], shape=SHAPE))

    def test_the_number_of_trees(self):
        for count in (0, 2, 3):
            self.misfits([("tell", 0)] * count)
        for count in (0, 1, 3):
            self.misfits([("tell", 0)] * count, hand=1)

    def everywhere(self, wrong, right):
        """Tests that one tree is wrong and another one fits, alone, and deep in branches."""
        for tree, test in ((wrong, self.misfits), (right, self.fits)):
            test([tree])
            for outer in (deep(tree), deep(tree, dial=1), deep(deep(tree), 1, 2), deep(deep(tree, 1, 1))):
                test([outer])
            # Of several branches one alone is wrong.
            test([("ask", 1, 0, (deep(("tell", 2)), deep(tree)))])
            test([("ask", 1, 0, (deep(tree), deep(("tell", 2))))])
            test([("ask", 1, 0, (tree, tree))])

    def test_told_signs(self):
        for sign in (3, 4, -1, -3, GREAT):
            self.everywhere(("tell", sign), ("tell", 2))

    def test_the_signs_are_those_of_the_hand_of_the_shape(self):
        self.misfits([("tell", 0), ("tell", 2)], hand=1)
        self.fits([("tell", 2), ("tell", 2)], hand=1, shape=((1, 2), (2, 3)))
        self.misfits([("tell", 2)], shape=((1, 2), (2, 3)))
        self.misfits([("tell", 0), deep(("tell", 2))], hand=1)
        self.misfits([deep(("tell", 2)), ("tell", 0)], hand=1)

    def test_first_words(self):
        tells = (("tell", 0),) * 3
        for word in ("ASK", "tells", "asks", "", "told", "a"):
            self.everywhere((word, 2, 0, tells), ("ask", 2, 0, tells))
            self.everywhere((word, 1), ("tell", 1))
            self.everywhere((word,), ("tell", 1))

    def test_boxes_that_are_not_there(self):
        tells = (("tell", 0),) * 3
        for box in (3, 4, -1, -2, GREAT):
            self.everywhere(("ask", box, 0, tells), ("ask", 2, 0, tells))
            self.everywhere(("ask", box, 0, TELLS), ("ask", 2, 0, tells))
        self.misfits([("ask", 0, 0, TELLS)], boxes=[])
        self.misfits([("ask", 1, 0, TELLS)], boxes=[BOX])

    def test_dials_that_are_not_there(self):
        tells = (("tell", 0),) * 3
        for dial in (1, 2, -1, GREAT):
            self.everywhere(("ask", 2, dial, tells), ("ask", 2, 0, tells))
        # The dials are those of the hand's side of the box.
        self.fits([("ask", 1, 2, TELLS)])
        self.misfits([("ask", 1, 3, TELLS)])
        self.fits([("tell", 0), ("ask", 1, 0, (*TELLS, ("tell", 1)))], hand=1)
        self.misfits([("tell", 0), ("ask", 1, 1, (*TELLS, ("tell", 1)))], hand=1)

    def test_numbers_of_branches(self):
        for count in (0, 1, 2, 4):
            self.everywhere(("ask", 2, 0, (("tell", 0),) * count), ("ask", 2, 0, (("tell", 0),) * 3))
        # The signs are those of the hand's side of the box.
        self.misfits([("ask", 1, 0, (*TELLS, ("tell", 1)))])
        self.misfits([("tell", 0), ("ask", 1, 0, TELLS)], hand=1)

    def test_a_box_asked_twice_on_a_path(self):
        self.misfits([deep(deep(("tell", 1)))])
        self.misfits([deep(deep(("tell", 1), dial=1))])
        self.misfits([deep(deep(deep(("tell", 1)), 1))])
        self.misfits([("ask", 0, 0, (("ask", 0, 0, TELLS), ("tell", 1)))])
        self.misfits([deep(deep(deep(("tell", 1), 1), 0), 1)])
        self.misfits([("tell", 1), deep(deep(("tell", 0)))], hand=1)
        # On different paths it may be asked again.
        self.fits([("ask", 1, 0, (deep(("tell", 1)), deep(("tell", 2))))])
        self.fits([("ask", 2, 0, (deep(("tell", 1), 1), deep(deep(("tell", 1)), 1), deep(("tell", 0))))])
        # The same box may stand in the list twice, under two numbers.
        self.fits([deep(deep(("tell", 1)), 1)], boxes=[BOX, BOX])

    def test_five_boxes(self):
        tree = ("tell", 1)
        for box in range(5):
            tree = ("ask", box, 1, (tree, tree))
        self.fits([tree, tree], boxes=[BOX] * 5, shape=SQUARE)
        self.misfits([tree, tree], boxes=[BOX] * 4, shape=SQUARE)
        self.misfits([tree, ("ask", 0, 0, (tree, tree))], boxes=[BOX] * 5, shape=SQUARE)

    def test_arguments_are_not_changed(self):
        trees, boxes = [EXAMPLE], [BOX, BOX]
        self.fits(trees, boxes=boxes)
        self.assertEqual((trees, boxes), ([EXAMPLE], [BOX, BOX]))
