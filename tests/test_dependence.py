"""Promises 20 and 35 to 38: dependencies of vectors."""

import unittest
from copy import deepcopy
from fractions import Fraction
from itertools import product
from math import gcd
from random import Random

from fardials.dependence import dependency
from tests.samples import GREAT


def rank(vectors):
    """The rank of the vectors, by elimination with fractions."""
    rows = [[Fraction(number) for number in vector] for vector in vectors]
    found = 0
    for column in range(len(rows[0]) if rows else 0):
        lead = next((at for at in range(found, len(rows)) if rows[at][column]), None)
        if lead is None:
            continue
        rows[found], rows[lead] = rows[lead], rows[found]
        for at in range(found + 1, len(rows)):
            times = rows[at][column] / rows[found][column]
            rows[at] = [mine - times * theirs for mine, theirs in zip(rows[at], rows[found])]
        found += 1
    return found


def first_that_depends(vectors):
    """The index of the first vector that depends on those before it, or None."""
    for at in range(len(vectors)):
        if rank(vectors[:at + 1]) <= at:
            return at
    return None


def units(many):
    return [tuple(int(at == index) for index in range(many)) for at in range(many)]


class DependencyTest(unittest.TestCase):
    def same(self, vectors, first):
        """Tests the properties that only one dependency has, with the first that depends."""
        found = dependency(vectors)
        if first is None:
            self.assertIsNone(found)
            return
        self.assertIs(type(found), tuple)
        self.assertEqual(len(found), len(vectors))
        for column in zip(*vectors):
            self.assertEqual(sum(number * times for number, times in zip(column, found)), 0)
        self.assertGreater(found[first], 0)
        self.assertEqual(set(found[first + 1:]) - {0}, set())
        self.assertEqual(gcd(*found), 1)


class Independent(DependencyTest):
    def test_no_vectors(self):
        self.assertIsNone(dependency([]))
        self.assertIsNone(dependency(()))

    def test_independent_lists(self):
        for vectors in ([(1,)], [(-7,)], [(0, 3)], [(1, 0), (1, 1)], [(2, 4), (2, 5)],
                        [(0, 0, 1), (0, 1, 1), (1, 1, 1)], [(1, 2, 3, 4), (2, 4, 6, 9)], units(5)):
            with self.subTest(vectors):
                self.assertIsNone(dependency(vectors))
                self.assertIsNone(dependency(tuple(vectors)))

    def test_64_vectors(self):
        self.assertIsNone(dependency(units(64)))
        self.assertIsNone(dependency(units(64)[::-1]))
        self.assertIsNone(dependency([tuple(int(at <= index) for at in range(64))
                                      for index in range(64)]))

    def test_nearly_dependent_great_vectors(self):
        self.assertIsNone(dependency([(GREAT, GREAT - 1), (GREAT - 1, GREAT - 2)]))
        self.assertIsNone(dependency([(GREAT ** 3, 1), (GREAT ** 3 + 1, 1)]))


class Dependent(DependencyTest):
    def test_example(self):
        self.assertEqual(dependency([(1, 0), (0, 2), (3, 4), (5, 5)]), (-3, -2, 1, 0))

    def test_the_first_vector_depends(self):
        self.assertEqual(dependency([(0, 0, 0)]), (1,))
        self.assertEqual(dependency([(0, 0), (0, 0), (1, 0)]), (1, 0, 0))

    def test_vectors_without_integers(self):
        self.assertEqual(dependency([()]), (1,))
        self.assertEqual(dependency([(), (), ()]), (1, 0, 0))

    def test_a_vector_of_zeros_depends_on_every_list(self):
        self.assertEqual(dependency([(1, 2), (0, 0), (3, 4)]), (0, 1, 0))
        self.assertEqual(dependency([(1, 2), (3, 4), (0, 0)]), (0, 0, 1))

    def test_one_in_the_middle(self):
        self.assertEqual(dependency([(2, 4), (3, 6), (1, 0)]), (-3, 2, 0))
        self.assertEqual(dependency([(1, 0, 0), (0, 1, 0), (-1, -1, 0), (0, 0, 1), (1, 1, 1)]),
                         (1, 1, 1, 0, 0))

    def test_the_last_vector_depends(self):
        self.assertEqual(dependency([(1, 1, 0), (0, 1, 1), (1, 0, -1)]), (-1, 1, 1))
        self.assertEqual(dependency([(4, 0), (0, 6), (2, 3)]), (-1, -1, 2))
        self.assertEqual(dependency([(-4,), (6,)]), (3, 2))
        self.assertEqual(dependency([(5,), (-5,)]), (1, 1))

    def test_a_vector_depends_though_it_is_no_sum_of_multiples(self):
        self.assertEqual(dependency([(2, 0), (0, 2), (1, 1)]), (-1, -1, 2))

    def test_all_small_lists(self):
        for many, width in ((1, 1), (2, 1), (3, 1), (2, 2), (3, 2)):
            for numbers in product((-2, 0, 1, 3), repeat=many * width):
                vectors = [numbers[at * width:(at + 1) * width] for at in range(many)]
                self.same(vectors, first_that_depends(vectors))

    def test_random_lists(self):
        chance = Random(1)
        for _ in range(150):
            many, width = chance.randrange(1, 8), chance.randrange(1, 7)
            parts = [[chance.randrange(-3, 4) for _ in range(width)] for _ in range(chance.randrange(1, 6))]
            vectors = []
            for _ in range(many):
                times = [chance.randrange(-9, 10) for _ in parts]
                vectors.append(tuple(sum(k * part[at] for k, part in zip(times, parts))
                                     for at in range(width)))
            self.same(vectors, first_that_depends(vectors))

    def test_64_vectors_of_64_integers(self):
        chance = Random(2)
        vectors = [tuple(chance.randrange(-9, 10) for _ in range(64)) for _ in range(63)]
        total = tuple(3 * a - 2 * b for a, b in zip(vectors[5], vectors[62]))
        found = dependency([*vectors, total])
        self.assertEqual({at: number for at, number in enumerate(found) if number},
                         {5: -3, 62: 2, 63: 1})
        self.same([(0,) * 64] * 64, 0)
        narrow = [tuple(chance.randrange(-9, 10) for _ in range(20)) for _ in range(64)]
        self.same(narrow, 20)

    def test_great_numbers(self):
        self.assertEqual(dependency([(GREAT,), (GREAT - 1,)]), (1 - GREAT, GREAT))
        chance = Random(3)
        vectors = [tuple(chance.randrange(-GREAT, GREAT) for _ in range(11)) for _ in range(12)]
        self.same(vectors, 11)
        again = [tuple(number * found for number in vector)
                 for vector, found in zip(vectors, dependency(vectors))]
        self.assertEqual(dependency(again), (1,) * 12)

    def test_arguments_are_not_changed(self):
        vectors = [(4, 2, 0), (1, 0, 1), (5, 2, 1), (0, 0, 0)]
        before = deepcopy(vectors)
        self.assertEqual(dependency(vectors), (-1, -1, 1, 0))
        self.assertEqual(vectors, before)

    def test_the_same_question_after_another_one(self):
        vectors = [(1, 0), (0, 2), (3, 4), (5, 5)]
        first = dependency(vectors)
        self.assertEqual(dependency([(1, 1), (2, 2)]), (-2, 1))
        self.assertEqual(dependency(tuple(vectors)), first)
        vectors[1] = (2, 0)
        self.assertEqual(dependency(vectors), (-2, 1, 0, 0))
