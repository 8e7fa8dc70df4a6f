"""Promises 20 and 57 to 61: best solutions, prices, and rays."""

import unittest
from copy import deepcopy
from fractions import Fraction
from itertools import combinations
from math import gcd
from random import Random

from fardials.best import Finding, best, is_best
from fardials.errors import Endless, InvalidSystem
from tests.samples import GREAT, raised
from tests.test_systems import EXAMPLE, FAULTS, random_parts

FOUND = ((8, 6), (2, 1), 5, 14)


def solved(rows, limits, gains):
    return best(rows, limits=limits, gains=gains)


def shows(rows, limits, gains, found):
    """The conditions of point 57, in fractions."""
    if len(found.solution) != len(gains) or len(found.prices) != len(rows) or found.bottom < 1:
        return False
    solution = [Fraction(number, found.bottom) for number in found.solution]
    prices = [Fraction(number, found.bottom) for number in found.prices]
    worth = Fraction(found.worth, found.bottom)
    return (min([0, *solution, *prices]) == 0
            and all(sum(k * x for k, x in zip(row, solution)) <= limit for row, limit in zip(rows, limits))
            and all(sum(price * row[at] for price, row in zip(prices, rows)) >= gain
                    for at, gain in enumerate(gains))
            and sum(gain * x for gain, x in zip(gains, solution)) == worth
            and sum(price * limit for price, limit in zip(prices, limits)) == worth)


class BestTest(unittest.TestCase):
    def accepts(self, parts, *found):
        rows, limits, gains = parts
        finding = Finding(*found)
        self.assertIs(is_best(rows, finding, limits=limits, gains=gains), True)
        self.assertTrue(shows(*parts, finding))

    def rejects(self, parts, *found):
        rows, limits, gains = parts
        finding = Finding(*found)
        self.assertIs(is_best(rows, finding, limits=limits, gains=gains), False)
        self.assertFalse(shows(*parts, finding))

    def same(self, parts):
        """Tests what `best` does: returns its fraction, or None where it shows a ray."""
        rows, limits, gains = parts
        before = deepcopy(parts)
        error = raised(solved, *parts)
        if error is not None:
            self.assertIs(type(error), Endless)
            self.ray(parts, error.ray)
            return None
        found = solved(*parts)
        self.assertEqual(parts, before)
        self.assertIs(type(found), Finding)
        self.assertIs(type(found.solution), tuple)
        self.assertIs(type(found.prices), tuple)
        self.accepts(parts, found.solution, found.prices, found.bottom, found.worth)
        self.assertEqual(gcd(found.bottom, *found.solution, *found.prices), 1)
        return Fraction(found.worth, found.bottom)

    def ray(self, parts, ray):
        """Tests the conditions of point 60."""
        rows, limits, gains = parts
        self.assertIs(type(ray), tuple)
        self.assertEqual(len(ray), len(gains))
        self.assertGreaterEqual(min(ray), 0)
        self.assertEqual(gcd(*ray), 1)
        for row in rows:
            self.assertLessEqual(sum(k * x for k, x in zip(row, ray)), 0)
        self.assertGreater(sum(gain * x for gain, x in zip(gains, ray)), 0)


class Findings(unittest.TestCase):
    def test_attributes(self):
        found = Finding((8, 6), (2, 1), 5, 14)
        self.assertEqual((found.solution, found.prices, found.bottom, found.worth), FOUND)
        found = Finding(worth=14, bottom=5, prices=[2, 1], solution=[8, 6])
        self.assertEqual((found.solution, found.prices, found.bottom, found.worth), FOUND)

    def test_lists_are_copied(self):
        solution, prices = [8, 6], [2, 1]
        found = Finding(solution, prices, 5, 14)
        solution.append(1)
        prices[0] = 9
        self.assertEqual((found.solution, found.prices), ((8, 6), (2, 1)))

    def test_nothing_is_tested(self):
        found = Finding([], [-1], 0, -GREAT)
        self.assertEqual((found.solution, found.prices, found.bottom, found.worth), ((), (-1,), 0, -GREAT))


class IsBest(BestTest):
    def test_findings_that_show_it(self):
        self.accepts(EXAMPLE, *FOUND)
        self.accepts(EXAMPLE, (16, 12), (4, 2), 10, 28)
        self.accepts(([[1]], [GREAT], [GREAT]), (GREAT,), (GREAT,), 1, GREAT ** 2)
        self.accepts(([[2]], [0], [3]), (0,), (3,), 2, 0)

    def test_rows_and_limits_may_be_tuples(self):
        self.assertIs(is_best(((1, 2), (3, 1)), Finding(*FOUND), limits=(4, 6), gains=(1, 1)), True)

    def test_without_rows_and_without_gains(self):
        self.accepts(([], [], []), (), (), 1, 0)
        self.accepts(([], [], [-2, 0]), (0, 7), (), 3, 0)
        self.rejects(([], [], [1]), (0,), (), 1, 0)
        self.accepts(([[], []], [3, 0], []), (), (0, 5), 1, 0)
        self.rejects(([[], []], [3, 0], []), (), (1, 0), 1, 3)

    def test_a_wrong_number_of_integers(self):
        for solution in ((), (8,), (8, 6, 0), (8, 6, 5)):
            self.rejects(EXAMPLE, solution, *FOUND[1:])
        for prices in ((), (2,), (2, 1, 0), (2, 1, 1)):
            self.rejects(EXAMPLE, FOUND[0], prices, *FOUND[2:])
        self.rejects(([], [], []), (0,), (), 1, 0)
        self.rejects(([], [], []), (), (0,), 1, 0)

    def test_an_integer_below_0_alone(self):
        # Everything but the sign fits: the row has the limit 4 for the sum of both numbers.
        parts = ([[1, 1]], [4], [1, 1])
        self.accepts(parts, (1, 3), (1,), 1, 4)
        self.rejects(parts, (-1, 5), (1,), 1, 4)
        self.rejects(parts, (5, -1), (1,), 1, 4)
        parts = ([[1], [1]], [4, 4], [1])
        self.accepts(parts, (4,), (0, 1), 1, 4)
        self.rejects(parts, (4,), (-1, 2), 1, 4)
        self.rejects(parts, (4,), (2, -1), 1, 4)

    def test_a_bottom_below_1_alone(self):
        for parts in (([], [], []), ([[0]], [0], [0])):
            zeros = ((0,) * len(parts[2]), (0,) * len(parts[0]))
            self.accepts(parts, *zeros, 1, 0)
            for bottom in (0, -1, -GREAT):
                self.rejects(parts, *zeros, bottom, 0)
        self.rejects(EXAMPLE, (0, 0), (0, 0), 0, 0)

    def test_a_limit_that_is_not_kept_alone(self):
        parts = ([[1, 0], [0, 1]], [2, 2], [1, 1])
        self.accepts(parts, (2, 2), (1, 1), 1, 4)
        self.rejects(parts, (1, 3), (1, 1), 1, 4)
        self.rejects(parts, (3, 1), (1, 1), 1, 4)
        self.rejects(parts, (5, 3), (2, 2), 2, 8)

    def test_a_gain_that_is_not_paid_alone(self):
        parts = ([[1, 0], [0, 1]], [2, 2], [1, 1])
        self.rejects(parts, (2, 2), (2, 0), 1, 4)
        self.rejects(parts, (2, 2), (0, 2), 1, 4)
        self.rejects(parts, (4, 4), (3, 1), 2, 8)

    def test_another_worth_alone(self):
        parts = ([[1]], [2], [1])
        self.accepts(parts, (2,), (1,), 1, 2)
        self.rejects(parts, (1,), (1,), 1, 2)
        self.rejects(parts, (1,), (1,), 1, 1)
        self.rejects(parts, (2,), (2,), 1, 2)
        self.rejects(parts, (2,), (2,), 1, 4)
        for worth in (1, 3, 0, -2):
            self.rejects(parts, (2,), (1,), 1, worth)
            self.rejects(EXAMPLE, *FOUND[:3], worth)

    def test_small_findings_all(self):
        parts = ([[1, 2], [2, -1]], [2, 1], [1, 1])
        numbers = range(-1, 7)
        for a in numbers:
            for b in numbers:
                for c in numbers:
                    for d in range(-1, 4):
                        found = Finding((a, b), (c, d), 5, a + b)
                        self.assertIs(is_best(parts[0], found, limits=parts[1], gains=parts[2]),
                                      shows(*parts, found))
        self.accepts(parts, (4, 3), (3, 1), 5, 7)

    def test_faults_come_first(self):
        findings = [Finding(*FOUND), Finding((), (), 1, 0), Finding((0,) * 9, (), 0, 5)]
        for name, (rows, limits, gains) in FAULTS.items():
            for finding in findings:
                with self.subTest(name):
                    error = raised(is_best, rows, finding, limits=limits, gains=gains)
                    self.assertIs(type(error), InvalidSystem)


class Best(BestTest):
    def test_example(self):
        found = solved(*EXAMPLE)
        self.assertEqual((found.solution, found.prices, found.bottom, found.worth), FOUND)
        found = best(((1, 2), (3, 1)), gains=(1, 1), limits=(4, 6))
        self.assertEqual((found.solution, found.prices, found.bottom, found.worth), FOUND)

    def test_known_gains(self):
        for parts, worth in (
                (([[1]], [7], [2]), 14), (([[2]], [7], [1]), Fraction(7, 2)), (([[1]], [7], [-2]), 0),
                (([[-1], [1]], [0, 5], [1]), 5), (([[1, 1], [1, -1]], [4, 2], [2, 1]), 7),
                (([[1, -1], [-1, 1], [1, 1]], [0, 0, 6], [3, -1]), 6),
                (([[3, 5, 2], [2, 1, 4]], [30, 24], [3, 4, 5]), 41),
                (([[3, 5], [4, 1]], [78, 36], [5, 4]), 78)):
            with self.subTest(parts):
                self.assertEqual(self.same(parts), worth)

    def test_without_rows_without_gains_and_without_both(self):
        for parts in (([], [], []), ([], [], [0, -3]), ([[], []], [2, 0], [])):
            self.assertEqual(self.same(parts), 0)
        found = solved([[], []], [2, 0], [])
        self.assertEqual((found.solution, found.prices, found.bottom, found.worth), ((), (0, 0), 1, 0))
        self.assertIsNone(self.same(([], [], [0, 4, -1])))
        self.assertEqual(raised(solved, [], [], [0, 4, -1]).ray, (0, 1, 0))

    def test_limits_of_0(self):
        self.assertEqual(self.same(([[1, 1]], [0], [5, 3])), 0)
        self.assertIsNone(self.same(([[1, -1]], [0], [5, 3])))
        self.assertEqual(self.same(([[1, -1], [-1, 1], [2, 3]], [0, 0, 0], [5, 3])), 0)

    def test_the_finding_is_in_lowest_terms(self):
        for parts in (([[2]], [4], [6]), ([[6, 0], [0, 4]], [9, 6], [3, 2]), ([[10 ** 9]], [10 ** 9], [1])):
            self.same(parts)
        found = solved([[2]], [4], [6])
        self.assertEqual((found.solution, found.prices, found.bottom, found.worth), ((2,), (3,), 1, 12))
        found = solved([[6, 0], [0, 4]], [9, 6], [3, 2])
        self.assertEqual((found.solution, found.prices, found.bottom, found.worth), ((3, 3), (1, 1), 2, 15))

    def test_rays(self):
        for parts, ray in ((([[-1]], [5], [1]), (1,)), (([[0, 1]], [5], [3, 1]), (1, 0)),
                           (([[1, -1]], [5], [1, 0]), (1, 1)), (([[4, -6]], [5], [1, 0]), (3, 2)),
                           (([[1, -1], [-2, 1]], [5, 0], [1, 1]), None),
                           (([[0, 2, -4], [1, -3, 0]], [1, 2], [7, 0, -1]), (6, 2, 1))):
            with self.subTest(parts):
                self.assertIsNone(self.same(parts))
                if ray is not None:
                    self.assertEqual(raised(solved, *parts).ray, ray)

    def test_the_ray_may_begin_at_a_slack(self):
        # No number of the solution can grow alone at the end, but the slack of a row can.
        self.assertIsNone(self.same(([[1, -1, 0], [-1, 1, 0], [0, -1, 1]], [1, 0, 1], [2, -1, 0])))
        chance = Random(1)
        for _ in range(100):
            rows, limits, gains = random_parts(chance, most=4, low=-5)
            self.same((rows, [0] * len(rows), gains))

    def test_random_systems(self):
        chance = Random(2)
        found = [self.same(random_parts(chance, low=chance.choice((-6, -2, 0)))) for _ in range(500)]
        self.assertGreater(found.count(None), 40)
        self.assertGreater(len(set(found)), 40)

    def test_many_equal_rows_and_zeros(self):
        self.assertEqual(self.same(([[1, 2]] * 10 + [[2, 1]] * 10, [3] * 20, [1, 1])), 2)
        chance = Random(3)
        for _ in range(60):
            rows = [[chance.randrange(-1, 2) for _ in range(5)] for _ in range(7)]
            self.same((rows, [chance.choice((0, 0, 1)) for _ in rows], [1] * 5))

    def test_systems_that_are_known_to_be_hard(self):
        beale = ([[25, -6000, -4, 900], [25, -4500, -1, 150], [0, 0, 1, 0]], [0, 0, 1], [75, -15000, 2, -600])
        self.assertEqual(self.same(beale), 5)
        for many in (3, 6):
            rows = [[2 ** (at - other + 1) if other < at else int(other == at) for other in range(many)]
                    for at in range(many)]
            limits = [5 ** (at + 1) for at in range(many)]
            self.assertEqual(self.same((rows, limits, [2 ** (many - 1 - at) for at in range(many)])), 5 ** many)

    def test_64_rows_and_64_gains(self):
        chance = Random(4)
        for low in (0, -3):
            rows = [[chance.randrange(low, 9) for _ in range(64)] for _ in range(64)]
            self.assertIsNotNone(self.same((rows, [chance.randrange(0, 99) for _ in rows], [1] * 64)))
        units = [[int(at == other) for other in range(64)] for at in range(64)]
        self.assertEqual(self.same((units, list(range(64)), [1] * 64)), 63 * 32)
        self.assertIsNone(self.same((units[:63], [1] * 63, [1] * 64)))
        self.assertEqual(self.same(([[1] * 64], [5], list(range(64)))), 5 * 63)
        self.assertEqual(self.same(([[1]] * 64, list(range(9, 73)), [2])), 18)

    def test_great_numbers(self):
        self.assertEqual(self.same(([[GREAT]], [GREAT - 1], [GREAT - 2])),
                         Fraction((GREAT - 1) * (GREAT - 2), GREAT))
        chance = Random(5)
        for many in (2, 5, 9):
            rows = [[chance.randrange(-GREAT // 3, GREAT) for _ in range(many)] for _ in range(many)]
            self.same((rows, [chance.randrange(GREAT) for _ in rows],
                       [chance.randrange(-GREAT // 4, GREAT) for _ in range(many)]))
        self.assertEqual(self.same(([[GREAT, 1 - GREAT]], [GREAT], [1, -1])), 1)
        self.assertIsNone(self.same(([[GREAT ** 2, 1 - GREAT ** 2]], [GREAT ** 3], [2, -1])))
        self.assertEqual(raised(solved, [[GREAT, 1 - GREAT]], [0], [2, -1]).ray, (GREAT - 1, GREAT))

    def test_no_choice_of_heads_is_better(self):
        # The best of all corners of a system whose solutions are bounded.
        chance = Random(6)
        for _ in range(25):
            rows = [[chance.randrange(1, 6), chance.randrange(1, 6)] for _ in range(3)]
            limits = [chance.randrange(0, 12) for _ in rows]
            gains = [chance.randrange(-2, 6) for _ in range(2)]
            lines = [*[(*row, limit) for row, limit in zip(rows, limits)], (1, 0, 0), (0, 1, 0)]
            gained = []
            for (a, b, c), (d, e, f) in combinations(lines, 2):
                if a * e == b * d:
                    continue
                x, y = Fraction(c * e - b * f, a * e - b * d), Fraction(a * f - c * d, a * e - b * d)
                if x >= 0 and y >= 0 and all(k * x + m * y <= limit for (k, m), limit in zip(rows, limits)):
                    gained.append(gains[0] * x + gains[1] * y)
            self.assertEqual(self.same((rows, limits, gains)), max(gained))

    def test_faults(self):
        for name, parts in FAULTS.items():
            with self.subTest(name):
                self.assertIs(type(raised(solved, *parts)), InvalidSystem)
        # It comes ahead of Endless.
        self.assertIs(type(raised(solved, [[-1], [-1, 2]], [5, 5], [1])), InvalidSystem)
        with self.assertRaises(TypeError):
            best(*EXAMPLE)

    def test_the_same_question_after_another_one(self):
        rows, limits, gains = deepcopy(EXAMPLE)
        found = solved(rows, limits, gains)
        self.assertIsNone(self.same(([[-1, 1]], [5], [1, 0])))
        limits[0] = 0
        self.assertEqual(self.same((rows, limits, gains)), 0)
        self.assertEqual((found.solution, found.prices, found.bottom, found.worth), FOUND)
        self.assertEqual(self.same(EXAMPLE), Fraction(14, 5))
