"""Promises 20 and 47 to 56: straight systems."""

import unittest
from copy import deepcopy
from fractions import Fraction
from itertools import combinations, product
from math import comb, gcd
from random import Random

from fardials.dependence import dependency
from fardials.errors import InvalidSystem
from fardials.systems import System
from tests.samples import GREAT, raised

EXAMPLE = ([[1, 2], [3, 1]], [4, 6], [1, 1])

# Rows, limits, gains: what is wrong with each of them.
FAULTS = {
    "a limit is missing": ([[1, 2], [3, 4]], [5], [1, 1]),
    "a limit too many": ([[1, 2]], [5, 5], [1, 1]),
    "limits without rows": ([], [5], [1, 1]),
    "rows without limits": ([[1, 2]], [], [1, 1]),
    "a short first row": ([[1], [3, 4]], [5, 5], [1, 1]),
    "a long last row": ([[1, 2], [3, 4, 5]], [5, 5], [1, 1]),
    "an empty row": ([[1, 2], []], [5, 5], [1, 1]),
    "a row without gains": ([[1]], [5], []),
    "a first limit below 0": ([[1, 2], [3, 4]], [-1, 5], [1, 1]),
    "a last limit below 0": ([[1, 2], [3, 4]], [5, -GREAT], [1, 1]),
    "a limit below 0 without gains": ([[], []], [0, -1], []),
}


def made(rows, limits, gains):
    return System(rows, limits=limits, gains=gains)


def state(system):
    return deepcopy((system.equations, system.heads, system.goal, system.scale))


def random_parts(chance, most=5, low=-4):
    """Random rows, limits and gains, small numbers, some limits equal or 0."""
    many, slacks = chance.randrange(most + 1), chance.randrange(most + 1)
    rows = [[chance.randrange(low, 6) for _ in range(many)] for _ in range(slacks)]
    limits = [chance.choice((0, 0, 1, 2, 6, 12)) for _ in rows]
    return rows, limits, [chance.randrange(-3, 6) for _ in range(many)]


def possible_turns(system):
    """All pairs of an equation and a variable at which a turn is possible."""
    return [(index, variable) for index, equation in enumerate(system.equations)
            for variable, number in enumerate(equation[:-1]) if number > 0]


def ranking(system, index, variable):
    """The ranking of an equation as fractions."""
    equation = system.equations[index]
    slacks = len(system.equations)
    numbers = [equation[-1], *equation[len(equation) - 1 - slacks:-1]]
    return [Fraction(number, equation[variable]) for number in numbers]


def is_positive(numbers):
    return next((number > 0 for number in numbers if number), False)


class SystemTest(unittest.TestCase):
    def refuses(self, call, *items, **more):
        self.assertIs(type(raised(call, *items, **more)), InvalidSystem)

    def facts(self, system, rows, limits, gains):
        """Tests the facts of point 53."""
        many, slacks = len(gains), len(rows)
        fresh = made(rows, limits, gains)
        self.assertEqual((len(system.equations), len(system.heads)), (slacks, slacks))
        for index, (equation, head) in enumerate(zip(system.equations, system.heads)):
            self.assertEqual(len(equation), many + slacks + 1)
            self.assertGreater(equation[head], 0)
            others = [other[head] for other in system.equations]
            self.assertEqual(set(others[:index] + others[index + 1:] + [system.goal[head]]), {0})
            times = equation[many:-1]
            self.assertEqual(equation, [sum(k * part[at] for k, part in zip(times, fresh.equations))
                                        for at in range(many + slacks + 1)])
            self.assertEqual(gcd(*equation), 1)
        self.assertIsNone(dependency([tuple(equation[many:-1]) for equation in system.equations]))
        prices = [-number for number in system.goal[many:-1]]
        self.assertGreater(system.scale, 0)
        self.assertEqual(system.goal[:many], [
            system.scale * gain - sum(price * row[at] for price, row in zip(prices, rows))
            for at, gain in enumerate(gains)])
        self.assertEqual(system.goal[-1], -sum(price * limit for price, limit in zip(prices, limits)))
        self.assertEqual(gcd(system.scale, *system.goal), 1)


class NewSystems(SystemTest):
    def test_the_first_state(self):
        system = made(*EXAMPLE)
        self.assertEqual(state(system), ([[1, 2, 1, 0, 4], [3, 1, 0, 1, 6]], [2, 3], [1, 1, 0, 0, 0], 1))
        system = made([[-2, 4, 6]], [8], [0, -5, 7])
        self.assertEqual(state(system), ([[-2, 4, 6, 1, 8]], [3], [0, -5, 7, 0, 0], 1))

    def test_kinds_of_the_attributes(self):
        system = System(((1, 2), (3, 1)), limits=(4, 6), gains=(1, 1))
        self.assertEqual(state(system), state(made(*EXAMPLE)))
        self.assertEqual(set(vars(system)) & {"equations", "heads", "goal", "scale"},
                         {"equations", "heads", "goal", "scale"})
        for found in (system.equations, *system.equations, system.heads, system.goal):
            self.assertIs(type(found), list)
        self.assertEqual(state(System([(1, 2), [3, 1]], gains=[1, 1], limits=(4, 6))), state(system))

    def test_without_rows_without_gains_and_without_both(self):
        self.assertEqual(state(made([], [], [3, -1])), ([], [], [3, -1, 0], 1))
        self.assertEqual(state(made([[], []], [0, 5], [])),
                         ([[1, 0, 0], [0, 1, 5]], [0, 1], [0, 0, 0], 1))
        self.assertEqual(state(made([], [], [])), ([], [], [0], 1))

    def test_the_new_system_keeps_the_facts(self):
        chance = Random(1)
        for _ in range(30):
            parts = random_parts(chance)
            self.facts(made(*parts), *parts)

    def test_limits_and_gains_are_keywords(self):
        with self.assertRaises(TypeError):
            System([[1, 2], [3, 1]], [4, 6], [1, 1])

    def test_faults(self):
        for name, (rows, limits, gains) in FAULTS.items():
            with self.subTest(name):
                self.refuses(System, rows, limits=limits, gains=gains)
                self.refuses(System, tuple(rows), limits=tuple(limits), gains=tuple(gains))

    def test_arguments_are_copied_and_not_changed(self):
        rows, limits, gains = deepcopy(EXAMPLE)
        system = made(rows, limits, gains)
        before = state(system)
        rows[0][0] = limits[1] = gains[0] = 77
        rows.append([5, 5])
        self.assertEqual(state(system), before)
        rows, limits, gains = deepcopy(EXAMPLE)
        system = made(rows, limits, gains)
        system.turn(1, 0)
        self.assertEqual((rows, limits, gains), EXAMPLE)


class Entering(SystemTest):
    def test_the_least_variable_above_0(self):
        for gains, wanted in (([1, 1], 0), ([0, 1], 1), ([-5, 2], 1), ([0, 0], None), ([-1, -2], None),
                              ([GREAT, GREAT + 1], 0)):
            self.assertEqual(made([[1, 2], [3, 1]], [4, 6], gains).entering(), wanted)
        self.assertIsNone(made([], [], []).entering())
        self.assertIsNone(made([[]], [4], []).entering())
        self.assertEqual(made([], [], [0, 3]).entering(), 1)

    def test_slacks_may_enter(self):
        system = made([[1, 0], [2, 1]], [4, 6], [1, 2])
        system.turn(0, 0)
        system.turn(1, 1)
        self.assertEqual(system.goal[:2], [0, 0])
        self.assertGreater(system.goal[2], 0)
        self.assertEqual(system.entering(), 2)

    def test_the_right_side_is_no_variable(self):
        # After a turn that no step would make, the right side of the goal is above 0.
        system = made([[1]], [4], [-1])
        system.turn(0, 0)
        self.assertEqual(system.goal, [0, 1, 4])
        system = made([[1], [1]], [0, 4], [-1])
        system.turn(1, 0)
        self.assertEqual(system.goal, [0, 0, 1, 4])
        self.assertEqual(system.entering(), 2)
        system = made([[2, -2]], [5], [-1, 1])
        system.turn(0, 0)
        self.assertEqual((system.goal, system.scale), ([0, 0, 1, 5], 2))

    def test_nothing_changes(self):
        system = made(*EXAMPLE)
        before = state(system)
        self.assertEqual((system.entering(), system.entering()), (0, 0))
        self.assertEqual(state(system), before)


class Leaving(SystemTest):
    def test_the_least_right_side(self):
        system = made([[1, 2], [3, 1]], [4, 6], [1, 1])
        self.assertEqual((system.leaving(0), system.leaving(1)), (1, 0))
        self.assertEqual((system.leaving(2), system.leaving(3)), (0, 1))

    def test_only_integers_above_0(self):
        self.assertIsNone(made([[0], [-3]], [0, 0], [1]).leaving(0))
        self.assertEqual(made([[0], [-3], [5]], [0, 0, 100], [1]).leaving(0), 2)
        self.assertIsNone(made([], [], [1, 1]).leaving(1))

    def test_slacks_decide_equal_right_sides(self):
        # Of new equations with equal first numbers, the ranking of the last one begins with zeros.
        self.assertEqual(made([[1], [1], [1]], [3, 3, 3], [1]).leaving(0), 2)
        self.assertEqual(made([[2], [3], [1]], [0, 0, 0], [1]).leaving(0), 2)
        self.assertEqual(made([[2], [4], [6], [-1]], [4, 8, 12, 0], [1]).leaving(0), 2)
        self.assertEqual(made([[2], [4], [6], [1]], [4, 8, 11, 3], [1]).leaving(0), 2)
        self.assertEqual(made([[1]] * 64, [7] * 64, [1]).leaving(0), 63)
        self.assertEqual(made([[5]] * 63 + [[-5]], [0] * 64, [1]).leaving(0), 62)

    def test_slacks_below_0_and_exact_fractions(self):
        system = made([[1, 1], [1, 2], [2, 3]], [2, 2, 4], [1, 1])
        system.turn(1, 0)
        # Both other equations have the right side 0 now, and slacks below 0.
        self.assertEqual(system.equations, [[0, -1, 1, -1, 0, 0], [1, 2, 0, 1, 0, 2],
                                            [0, -1, 0, -2, 1, 0]])
        self.assertEqual(system.leaving(1), 1)
        system.turn(1, 1)
        wanted = min(range(3), key=lambda at: ranking(system, at, 0)
                     if system.equations[at][0] > 0 else [Fraction(10 ** 9)])
        self.assertEqual(system.leaving(0), wanted)

    def test_the_last_slack_alone_may_decide(self):
        system = made([[1, -2, -1], [1, -1, 0]], [0, 0], [1, 1, 1])
        system.turn(0, 0)
        system.turn(1, 1)
        self.assertEqual(system.equations, [[1, 0, 1, -1, 2, 0], [0, 1, 1, -1, 1, 0]])
        self.assertEqual(system.leaving(2), 1)

    def test_rankings_that_differ_by_very_little(self):
        self.assertEqual(made([[GREAT], [GREAT - 1]], [GREAT - 1, GREAT - 2], [1]).leaving(0), 1)
        self.assertEqual(made([[GREAT - 1], [GREAT]], [GREAT - 2, GREAT - 1], [1]).leaving(0), 0)
        self.assertEqual(made([[GREAT], [GREAT]], [GREAT, GREAT], [1]).leaving(0), 1)
        self.assertEqual(made([[3], [GREAT * 3]], [1, GREAT], [1]).leaving(0), 1)

    def test_all_rankings_after_many_turns(self):
        chance = Random(2)
        tried = 0
        for _ in range(120):
            system = made(*random_parts(chance))
            for _ in range(6):
                for variable in range(len(system.goal) - 1):
                    found = {index: ranking(system, index, variable)
                             for index, equation in enumerate(system.equations)
                             if equation[variable] > 0}
                    self.assertEqual(len({tuple(numbers) for numbers in found.values()}), len(found))
                    wanted = min(found, key=lambda index: found[index]) if found else None
                    before = state(system)
                    self.assertEqual(system.leaving(variable), wanted)
                    self.assertEqual(state(system), before)
                    firsts = [numbers[0] for numbers in found.values()]
                    tried += firsts.count(min(firsts, default=0)) > 1
                if not possible_turns(system):
                    break
                system.turn(*chance.choice(possible_turns(system)))
        self.assertGreater(tried, 100)


class Turns(SystemTest):
    def test_example(self):
        system = made(*EXAMPLE)
        self.assertIsNone(system.turn(1, 0))
        self.assertEqual(state(system), ([[0, 5, 3, -1, 6], [3, 1, 0, 1, 6]], [2, 0],
                                         [0, 2, 0, -1, -6], 3))
        self.assertEqual((system.entering(), system.leaving(1)), (1, 0))
        system.turn(0, 1)
        self.assertEqual(state(system), ([[0, 5, 3, -1, 6], [5, 0, -1, 2, 8]], [1, 0],
                                         [0, 0, -2, -1, -14], 5))
        self.assertIsNone(system.entering())

    def test_the_turned_equation_does_not_change(self):
        system = made([[4, 2], [6, 3]], [8, 9], [2, 4])
        system.turn(0, 0)
        self.assertEqual(system.equations[0], [4, 2, 1, 0, 8])
        self.assertEqual(system.equations[1], [0, 0, -3, 2, -6])
        self.assertEqual((system.goal, system.scale), ([0, 6, -1, 0, -8], 2))

    def test_equations_are_divided_by_the_divisor_of_all_their_integers(self):
        system = made([[2, 4], [2, 8], [0, 3]], [6, 10, 6], [2, 6])
        system.turn(0, 0)
        self.assertEqual(system.equations, [[2, 4, 1, 0, 0, 6], [0, 4, -1, 1, 0, 4], [0, 3, 0, 0, 1, 6]])
        self.assertEqual((system.goal, system.scale), ([0, 2, -1, 0, 0, -6], 1))

    def test_the_goal_and_the_scale_are_divided_together(self):
        system = made([[2]], [2], [3])
        system.turn(0, 0)
        self.assertEqual((system.goal, system.scale), ([0, -3, -6], 2))
        system = made([[4]], [2], [6])
        system.turn(0, 0)
        self.assertEqual((system.goal, system.scale), ([0, -3, -6], 2))
        system = made([[5, 1]], [2], [0, 1])
        system.turn(0, 0)
        self.assertEqual((system.goal, system.scale), ([0, 1, 0, 0], 1))

    def test_every_turn_as_the_words_of_the_document_say(self):
        chance = Random(3)
        for _ in range(150):
            system = made(*random_parts(chance))
            for _ in range(5):
                turns = possible_turns(system)
                if not turns:
                    break
                index, variable = chance.choice(turns)
                equations, heads, goal, scale = state(system)
                turned = equations[index]
                p = turned[variable]
                wanted = []
                for at, equation in enumerate(equations):
                    if at != index:
                        equation = [p * a - equation[variable] * b for a, b in zip(equation, turned)]
                        equation = [number // gcd(*equation) for number in equation]
                    wanted.append(equation)
                goal = [p * a - goal[variable] * b for a, b in zip(goal, turned)]
                divisor = gcd(p * scale, *goal)
                heads[index] = variable
                system.turn(index, variable)
                self.assertEqual(state(system), (wanted, heads, [number // divisor for number in goal],
                                                 p * scale // divisor))

    def test_refused_turns_change_nothing(self):
        system = made([[1, 0, -2], [3, 1, 0]], [4, 6], [1, 1, 1])
        system.turn(1, 0)
        before = state(system)
        refused = [(index, variable) for index, variable in product(range(2), range(5))
                   if (index, variable) not in possible_turns(system)]
        self.assertGreater(len(refused), 3)
        for index, variable in refused:
            self.refuses(system.turn, index, variable)
            self.assertEqual(state(system), before)
        # The head of another equation, and an integer below 0.
        self.assertEqual(system.equations[0][0], 0)
        self.assertEqual(system.equations[0][1], -1)
        self.assertIn((0, 0), refused)
        self.assertIn((0, 1), refused)
        system.turn(1, 3 + 1)
        self.assertNotEqual(state(system), before)

    def test_a_turn_at_the_own_head_changes_nothing(self):
        system = made(*EXAMPLE)
        system.turn(1, 0)
        before = state(system)
        for index, head in enumerate(system.heads):
            system.turn(index, head)
            self.assertEqual(state(system), before)

    def test_two_systems_in_turn(self):
        first, second, alone = made(*EXAMPLE), made(*EXAMPLE), made(*EXAMPLE)
        first.turn(1, 0)
        self.assertEqual(state(second), state(alone))
        second.turn(0, 1)
        first.turn(0, 1)
        alone.turn(1, 0)
        alone.turn(0, 1)
        self.assertEqual(state(first), state(alone))
        self.assertEqual(second.heads, [1, 3])
        self.assertEqual(first.heads, [1, 0])

    def test_great_numbers(self):
        parts = ([[GREAT, GREAT - 7], [GREAT // 3, -GREAT]], [GREAT, GREAT - 1], [GREAT, GREAT - 2])
        system = made(*parts)
        for index, variable in ((0, 0), (1, 2), (0, 1)):
            if system.equations[index][variable] > 0:
                system.turn(index, variable)
                self.facts(system, *parts)

    def test_64_rows_and_64_gains(self):
        chance = Random(4)
        parts = ([[chance.randrange(-2, 9) for _ in range(64)] for _ in range(64)],
                 [chance.randrange(0, 3) for _ in range(64)], [chance.randrange(-5, 9) for _ in range(64)])
        system = made(*parts)
        self.facts(system, *parts)
        for _ in range(4):
            variable = system.entering()
            system.turn(system.leaving(variable), variable)
            self.facts(system, *parts)


class Facts(SystemTest):
    def test_the_facts_after_any_turns(self):
        chance = Random(5)
        for _ in range(150):
            parts = random_parts(chance)
            system = made(*parts)
            for _ in range(7):
                if not possible_turns(system):
                    break
                system.turn(*chance.choice(possible_turns(system)))
                self.facts(system, *parts)

    def test_a_turn_is_undone_by_a_turn_at_the_head_before(self):
        chance = Random(6)
        for _ in range(100):
            system = made(*random_parts(chance))
            for _ in range(4):
                turns = possible_turns(system)
                if not turns:
                    break
                index, variable = chance.choice(turns)
                before = state(system)
                head = system.heads[index]
                system.turn(index, variable)
                system.turn(index, head)
                self.assertEqual(state(system), before)
                system.turn(index, variable)

    def test_equal_heads_mean_equal_states(self):
        chance = Random(7)
        met = 0
        for _ in range(12):
            parts = random_parts(chance, most=3)
            by_heads, by_set = {}, {}
            for _ in range(40):
                system = made(*parts)
                for _ in range(5):
                    if not possible_turns(system):
                        break
                    system.turn(*chance.choice(possible_turns(system)))
                    met += tuple(system.heads) in by_heads
                    kept = by_heads.setdefault(tuple(system.heads), state(system))
                    self.assertEqual(state(system), kept)
                    goal = by_set.setdefault(tuple(sorted(system.heads)), (list(system.goal), system.scale))
                    self.assertEqual((system.goal, system.scale), goal)
        self.assertGreater(met, 100)

    def test_the_same_heads_at_other_equations(self):
        parts = ([[0, 0, 1], [0, 1, 1], [1, 1, 0]], [1, 2, 3], [3, 2, 2])
        first, second = made(*parts), made(*parts)
        for index, variable in ((0, 2), (1, 1), (2, 0)):
            first.turn(index, variable)
        for index, variable in ((1, 2), (2, 1), (0, 0)):
            second.turn(index, variable)
        self.assertEqual(sorted(first.heads), sorted(second.heads))
        self.assertNotEqual(first.heads, second.heads)
        self.assertEqual(sorted(first.equations), sorted(second.equations))
        self.assertEqual((first.goal, first.scale), (second.goal, second.scale))

    def test_right_sides_and_slacks_stay_positive(self):
        chance = Random(8)
        for _ in range(150):
            system = made(*random_parts(chance))
            for _ in range(6):
                many = len(system.goal) - 1 - len(system.equations)
                for equation in system.equations:
                    self.assertTrue(is_positive([equation[-1], *equation[many:-1]]))
                variables = [variable for variable in range(len(system.goal) - 1)
                             if system.leaving(variable) is not None]
                if not variables:
                    break
                variable = chance.choice(variables)
                system.turn(system.leaving(variable), variable)

    def steps(self, parts):
        """Makes steps to their end and tests point 56. Returns how many there are."""
        system = made(*parts)
        many, slacks = len(parts[2]), len(parts[0])
        seen = [sorted(system.heads)]
        values = [Fraction(0)] * (slacks + 1)
        while True:
            variable = system.entering()
            index = None if variable is None else system.leaving(variable)
            if index is None:
                break
            system.turn(index, variable)
            self.assertNotIn(sorted(system.heads), seen)
            seen.append(sorted(system.heads))
            numbers = [-system.goal[-1], *[-number for number in system.goal[many:-1]]]
            grown = [Fraction(number, system.scale) for number in numbers]
            self.assertLess(values, grown)
            values = grown
        self.assertLess(len(seen) - 1, comb(many + slacks, slacks))
        self.facts(system, *parts)
        return len(seen) - 1

    def test_steps_end_and_the_goal_grows(self):
        chance = Random(9)
        counts = [self.steps(random_parts(chance)) for _ in range(250)]
        self.assertGreater(max(counts), 4)

    def test_steps_with_all_limits_0(self):
        chance = Random(10)
        for _ in range(100):
            rows, limits, gains = random_parts(chance)
            self.steps((rows, [0] * len(rows), gains))

    def test_steps_that_would_cycle_without_the_slacks_in_the_ranking(self):
        # Beale's system, multiplied to integers.
        parts = ([[25, -6000, -4, 900], [25, -4500, -1, 150], [0, 0, 1, 0]], [0, 0, 1], [75, -15000, 2, -600])
        self.assertGreater(self.steps(parts), 1)

    def test_choices_of_two_rows_of_many_equal_ones(self):
        for first, second in combinations(range(4), 2):
            rows = [[1, 2] if at in (first, second) else [2, 1] for at in range(4)]
            self.steps((rows, [2] * 4, [3, 2]))
