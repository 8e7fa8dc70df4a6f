"""Promises 20 and 145 to 158: houses, letters, the referee, and worlds that are rebuilt."""

import unittest
from copy import deepcopy
from inspect import isgenerator
from itertools import product
from random import Random

from fardials.errors import InvalidLog, InvalidPlan, InvalidShape, InvalidWorld
from fardials.houses import World, perform, sweep
from fardials.plainshare import plain_share
from fardials.plans import plan_outcome, plans
from fardials.ratings import rate_plan, rate_table
from fardials.tables import Table
from tests.samples import (BOX, FULL_SHAPES, GREAT, SQUARE, THREE_HANDS, any_rating, context_list, outcome_list,
                           raised, summed_table)
from tests.test_halves import INVALID

SHAPES = [SQUARE, ((2, 3),), ((1, 3), (2, 2)), THREE_HANDS, FULL_SHAPES[0]]
PLAN = ((0, 1), (1, 1))
OTHER = ((1, 1), (0, 1))
ROUNDS = [(0, (1, 0)), (1, (0, 0)), (0, (1, 0)), (1, (1, 1)), (0, (0, 1))]


class Model:
    """A world as points 148 to 153 tell it, one dict and list for each thing that they name."""

    def __init__(self, shape, draws, schedule):
        self.shape, self.draws, self.schedule = shape, draws, schedule
        self.logs = {hand: [] for hand in range(len(shape))}
        self.said = {hand: 0 for hand in self.logs}
        self.letters, self.known = [], {}

    def sign(self, hand, number):
        draw, context = self.schedule[number]
        return plan_outcome(self.draws[draw], context)[hand]

    def do(self, word, *items):
        return {"ask": self.ask, "say": self.say, "fall": self.fall, "carry": self.carry}[word](*items)

    def ask(self, hand, number):
        if all(noted != number for noted, sign in self.logs[hand]):
            self.logs[hand] += [(number, self.sign(hand, number))]
        return self.sign(hand, number)

    def say(self, hand):
        before = len(self.letters)
        for at in range(self.said[hand], len(self.logs[hand])):
            self.letters += [(hand, *self.logs[hand][at])]
        self.said[hand] = len(self.logs[hand])
        return len(self.letters) - before

    def fall(self, hand):
        self.said[hand] = 0

    def carry(self, number):
        if number < 0 or number >= len(self.letters):
            return False
        hand, at, sign = self.letters[number]
        if (hand, at) in self.known:
            return False
        self.known[hand, at] = sign
        return True

    def outcome(self, number):
        signs = [self.known.get((hand, number)) for hand in range(len(self.shape))]
        return None if None in signs else tuple(signs)

    def tally(self):
        judged = [(self.schedule[at][1], self.outcome(at)) for at in range(len(self.schedule))]
        return tuple(tuple(judged.count((context, outcome)) for outcome in outcome_list(self.shape))
                     for context in context_list(self.shape))


def some_draws(shape, seed, many=4):
    chance = Random(seed)
    return [chance.choice(list(plans(shape))) for _ in range(many)]


def some_rounds(shape, seed, draws, many=12):
    chance = Random(seed)
    return [(chance.randrange(draws), chance.choice(context_list(shape))) for _ in range(many)]


def any_deed(chance, world):
    word = chance.choice(("ask", "ask", "ask", "say", "carry", "carry", "carry", "fall"))
    hand = chance.randrange(len(world.shape))
    if word == "ask":
        return (word, hand, chance.randrange(len(world.schedule)))
    return (word, chance.randrange(-2, len(world.sent()) + 2) if word == "carry" else hand)


def done(shape, seed, deeds=60):
    """A world after some deeds."""
    chance = Random(seed)
    draws = some_draws(shape, seed)
    world = World(shape, draws, some_rounds(shape, seed, len(draws)))
    for _ in range(deeds):
        world(any_deed(chance, world))
    return world


def finish(world):
    """What point 157 says."""
    for hand, number in product(range(len(world.shape)), range(len(world.schedule))):
        world.ask(hand, number)
    for hand in range(len(world.shape)):
        world.say(hand)
    for number in range(len(world.sent())):
        world.carry(number)


def state(world):
    hands = range(len(world.shape))
    numbers = range(len(world.schedule))
    return ([world.log(hand) for hand in hands], world.sent(), list(world.judged()), world.tally(),
            world.finished, [world.outcome(number) for number in numbers],
            [(hand, number) in world for hand in hands for number in numbers])


class Sweep(unittest.TestCase):
    def test_known_sweeps(self):
        draws = [PLAN, OTHER, PLAN]
        contexts = [(0, 0), (0, 1), (1, 0), (1, 1)]
        found = sweep(SQUARE, draws)
        self.assertEqual(found, [(draw, context) for draw in range(3) for context in contexts])
        self.assertEqual(sweep(SQUARE, tuple(draws)), found)
        self.assertEqual((type(found), {type(item) for item in found}), (list, {tuple}))
        self.assertEqual(sweep(((2, 3),), [((0, 2),)]), [(0, (0,)), (0, (1,))])
        self.assertEqual(sweep(SQUARE, []), [])
        found.clear()
        self.assertEqual(len(sweep(SQUARE, draws)), 12)
        self.assertEqual(draws, [PLAN, OTHER, PLAN])

    def test_each_pair_once(self):
        for shape in SHAPES:
            draws = some_draws(shape, 1, 5)
            wanted = [(draw, context) for draw in range(5) for context in context_list(shape)]
            self.assertEqual(sweep(shape, draws), wanted)
            self.assertIsNone(raised(World, shape, draws, wanted[::-1]))


class NewWorlds(unittest.TestCase):
    def test_attributes(self):
        draws, schedule = [PLAN, OTHER, PLAN], list(ROUNDS)
        world = World(SQUARE, draws, schedule)
        draws.clear()
        schedule.append((0, (1, 1)))
        self.assertEqual((world.shape, world.plans_shared, world.schedule),
                         (SQUARE, (PLAN, OTHER, PLAN), tuple(ROUNDS)))
        self.assertEqual((type(world.plans_shared), type(world.schedule)), (tuple, tuple))
        again = World(shape=SQUARE, draws=(PLAN, OTHER, PLAN), schedule=tuple(ROUNDS))
        self.assertEqual((again.plans_shared, again.schedule), (world.plans_shared, world.schedule))
        self.assertEqual(state(world), state(again))

    def test_nothing_is_known_at_first(self):
        for shape in SHAPES:
            draws = some_draws(shape, 2)
            rounds = some_rounds(shape, 2, len(draws))
            zeros = tuple((0,) * len(outcome_list(shape)) for _ in context_list(shape))
            self.assertEqual(state(World(shape, draws, rounds)), (
                [[] for _ in shape], [], [], zeros, False, [None] * 12, [False] * 12 * len(shape)))

    def test_without_draws_and_without_rounds(self):
        for draws in ([], [PLAN]):
            world = World(SQUARE, draws, [])
            self.assertIs(world.finished, True)
            self.assertEqual((world.tally(), list(world.judged()), world.schedule), (((0,) * 4,) * 4, [], ()))
            self.assertEqual((world.say(0), world.carry(0), world.fall(1), world.sent()), (0, False, None, []))
            self.assertIs(World.rebuilt(SQUARE, draws, [], [[], []]).finished, True)

    def test_forty_draws_and_two_hundred_rounds(self):
        draws = some_draws(SQUARE, 5, 40)
        world = World(SQUARE, draws, some_rounds(SQUARE, 5, 40, 200))
        finish(world)
        self.assertIs(world.finished, True)
        self.assertEqual(sum(map(sum, world.tally())), 200)


class Deeds(unittest.TestCase):
    def test_the_example_of_the_interface(self):
        draws = [((0, 1), (1, 1))]
        world = World(SQUARE, draws, sweep(SQUARE, draws))
        self.assertEqual((world.ask(0, 2), world.say(0)), (1, 1))
        perform(world, [("fall", 0), ("say", 0), ("ask", 1, 2), ("say", 1), ("carry", 1), ("carry", 2)])
        self.assertEqual((world.sent(), world.outcome(2)), ([(0, 2, 1), (0, 2, 1), (1, 2, 1)], (1, 1)))

    def test_asking(self):
        world = World(SQUARE, [PLAN, OTHER], ROUNDS)
        self.assertEqual([world.ask(0, number) for number in (4, 0, 4, 1, 0)], [0, 1, 0, 1, 1])
        self.assertEqual(world.log(0), [(4, 0), (0, 1), (1, 1)])
        self.assertEqual(world.log(1), [])
        # Rounds with the same draw and context are different rounds.
        self.assertEqual([world.ask(hand=1, number=number) for number in (2, 0, 2)], [1, 1, 1])
        self.assertEqual(world.log(1), [(2, 1), (0, 1)])
        self.assertEqual((world.sent(), list(world.judged())), ([], []))

    def test_saying_and_falling(self):
        world = World(SQUARE, [PLAN, OTHER], ROUNDS)
        self.assertEqual(world.say(0), 0)
        world.ask(0, 4)
        world.ask(0, 0)
        self.assertEqual((world.say(0), world.say(0), world.say(1)), (2, 0, 0))
        self.assertEqual(world.sent(), [(0, 4, 0), (0, 0, 1)])
        world.ask(1, 3)
        world.ask(0, 4)
        world.ask(0, 3)
        self.assertEqual((world.say(1), world.say(0)), (1, 1))
        self.assertEqual(world.sent(), [(0, 4, 0), (0, 0, 1), (1, 3, 1), (0, 3, 1)])
        # A fall between says: the log stays, and all of it is sent again.
        world.ask(0, 2)
        self.assertIsNone(world.fall(0))
        self.assertEqual(world.log(0), [(4, 0), (0, 1), (3, 1), (2, 1)])
        self.assertEqual((world.say(1), world.say(0), world.say(0)), (0, 4, 0))
        self.assertEqual(world.sent()[4:], [(0, 4, 0), (0, 0, 1), (0, 3, 1), (0, 2, 1)])
        self.assertIsNone(world.fall(0))
        self.assertIsNone(world.fall(0))
        self.assertEqual((world.say(0), len(world.sent())), (4, 12))

    def test_carrying(self):
        world = World(SQUARE, [PLAN, OTHER], ROUNDS)
        self.assertEqual([world.carry(number) for number in (0, -1, 7, GREAT, -GREAT)], [False] * 5)
        perform(world, [("ask", 0, 2), ("ask", 1, 0), ("say", 0), ("say", 1), ("fall", 0), ("say", 0)])
        self.assertEqual([world.carry(number) for number in (-1, -2, -3, 3, GREAT)], [False] * 5)
        self.assertNotIn((0, 2), world)
        self.assertIs(world.carry(2), True)
        self.assertIs((0, 2) in world, True)
        self.assertIs((1, 2) in world, False)
        self.assertIs((0, 0) in world, False)
        # The same letter again, and another letter of the same note.
        self.assertEqual([world.carry(2), world.carry(0)], [False, False])
        self.assertIs(world.carry(1), True)
        self.assertEqual([world.outcome(number) for number in range(5)], [None] * 5)
        perform(world, [("ask", 0, 0), ("say", 0)])
        self.assertIsNone(world.outcome(0))
        self.assertIs(world.carry(number=3), True)
        self.assertEqual(world.outcome(0), (1, 1))
        self.assertIs(world.carry(3), False)

    def test_judged_rounds(self):
        world = World(SQUARE, [PLAN, OTHER], ROUNDS)
        deeds = [("ask", hand, number) for number in (4, 1, 2) for hand in (1, 0)]
        perform(world, [*deeds, ("say", 0), ("say", 1), *[("carry", number) for number in (5, 0, 4, 2, 1, 3)]])
        wanted = [(1, (1, 0)), (2, (1, 1)), (4, (0, 1))]
        self.assertEqual(list(world.judged()), wanted)
        self.assertEqual({type(part) for pair in world.judged() for part in (pair, pair[1])}, {tuple})
        self.assertIs(world.finished, False)
        self.assertEqual(world.tally(), ((0, 0, 1, 0), (0, 1, 0, 0), (0, 0, 0, 1), (0, 0, 0, 0)))
        found = world.judged()
        self.assertTrue(isgenerator(found))
        self.assertEqual(next(found), wanted[0])
        self.assertEqual((list(world.judged()), list(world.judged()), list(found)), (wanted, wanted, wanted[1:]))
        finish(world)
        self.assertIs(world.finished, True)
        self.assertEqual(world.tally(), ((0, 0, 1, 0), (0, 1, 0, 0), (0, 0, 0, 2), (0, 0, 0, 1)))

    def test_three_hands_and_one_hand(self):
        world = World(((2, 3),), [((2, 1),)], [(0, (0,)), (0, (1,))])
        perform(world, [("ask", 0, 1), ("say", 0), ("carry", 0)])
        self.assertEqual((world.outcome(1), world.tally()), ((1,), ((0, 0, 0), (0, 1, 0))))
        shape = THREE_HANDS
        world = World(shape, [((2,), (0, 1), (1,))], [(0, (0, 1, 0))])
        for hand in (2, 0, 1):
            self.assertIsNone(world.outcome(0))
            perform(world, [("ask", hand, 0), ("say", hand), ("carry", len(world.sent()))])
            world.carry(len(world.sent()) - 1)
        self.assertEqual(world.outcome(0), (2, 1, 1))

    def test_by_method_by_call_and_by_perform(self):
        for shape in SHAPES:
            for seed in range(4):
                draws, chance = some_draws(shape, seed), Random(seed)
                rounds = some_rounds(shape, seed, len(draws))
                first, second, third = [World(shape, draws, rounds) for _ in range(3)]
                model, deeds = Model(shape, draws, rounds), []
                for _ in range(80):
                    deed = any_deed(chance, first)
                    deeds.append(deed)
                    word, *items = deed
                    answer = model.do(word, *items)
                    for found in (first(deed), getattr(second, word)(*items)):
                        self.assertEqual((found, type(found)), (answer, type(answer)))
                    for hand in model.logs:
                        self.assertEqual(first.log(hand), model.logs[hand])
                    self.assertEqual(first.sent(), model.letters)
                before = list(deeds)
                self.assertIsNone(perform(third, deeds))
                self.assertEqual(deeds, before)
                self.assertEqual(state(first), state(second))
                self.assertEqual(state(first), state(third))
                for number in range(len(rounds)):
                    self.assertEqual(first.outcome(number), model.outcome(number))
                    for hand in model.logs:
                        self.assertIs((hand, number) in first, (hand, number) in model.known)
                self.assertEqual(first.tally(), model.tally())
                self.assertEqual(list(first.judged()), [(at, model.outcome(at)) for at in range(len(rounds))
                                                        if model.outcome(at) is not None])
                self.assertIs(first.finished, None not in [model.outcome(at) for at in range(len(rounds))])

    def test_perform_takes_lists_and_tuples(self):
        world = World(SQUARE, [PLAN], [(0, (0, 0))])
        self.assertIsNone(perform(world, ()))
        self.assertIsNone(perform(world=world, deeds=(("ask", 0, 0), ("say", 0))))
        self.assertEqual(world.sent(), [(0, 0, 0)])
        self.assertEqual(world(("say", 0)), 0)
        self.assertEqual(world(deed=("ask", 1, 0)), 1)
        self.assertIsNone(world(("fall", 0)))
        self.assertIs(world(("carry", 0)), True)

    def test_lists_are_new_ones(self):
        world = World(SQUARE, [PLAN], [(0, (0, 0))])
        perform(world, [("ask", 0, 0), ("say", 0)])
        world.log(0).clear()
        world.log(0).append((0, 1))
        world.sent().clear()
        self.assertEqual((world.log(0), world.sent(), world.say(0)), ([(0, 0)], [(0, 0, 0)], 0))

    def test_questions_change_nothing(self):
        world = done(SQUARE, 3)
        before = deepcopy(vars(world))
        state(world)
        self.assertEqual(vars(world), before)

    def test_worlds_do_not_share_what_they_know(self):
        first, second = [World(SQUARE, [PLAN], [(0, (0, 0))]) for _ in range(2)]
        finish(first)
        self.assertEqual((second.log(0), second.sent(), second.finished), ([], [], False))


class Facts(unittest.TestCase):
    def test_logs_letters_and_outcomes_after_any_deeds(self):
        for shape in SHAPES:
            for seed in range(6):
                world = done(shape, seed)
                for hand in range(len(shape)):
                    log = world.log(hand)
                    self.assertEqual(len({number for number, sign in log}), len(log))
                    for number, sign in log:
                        draw, context = world.schedule[number]
                        self.assertEqual(sign, world.plans_shared[draw][hand][context[hand]])
                for hand, number, sign in world.sent():
                    self.assertIn((number, sign), world.log(hand))
                for number, outcome in world.judged():
                    draw, context = world.schedule[number]
                    self.assertEqual(outcome, plan_outcome(world.plans_shared[draw], context))

    def test_a_log_depends_on_what_the_hand_was_asked_alone(self):
        for seed in range(10):
            chance = Random(seed)
            draws = some_draws(SQUARE, seed)
            rounds = some_rounds(SQUARE, seed, len(draws))
            first, second = World(SQUARE, draws, rounds), World(SQUARE, draws, rounds)
            for _ in range(60):
                deed = any_deed(chance, first)
                first(deed)
                if deed[0] == "ask":
                    second(deed)
            self.assertEqual([first.log(hand) for hand in (0, 1)], [second.log(hand) for hand in (0, 1)])

    def test_asking_saying_and_carrying_all_finishes_a_world(self):
        for shape in SHAPES:
            for seed in range(6):
                world = done(shape, seed, 10 * seed)
                logs = [world.log(hand) for hand in range(len(shape))]
                again = World.rebuilt(shape, world.plans_shared, world.schedule, logs)
                for one in (world, again):
                    finish(one)
                    self.assertIs(one.finished, True)
                    self.assertEqual(list(one.judged()), [
                        (number, plan_outcome(world.plans_shared[draw], context))
                        for number, (draw, context) in enumerate(world.schedule)])

    def test_the_tally_of_a_sweep(self):
        for shape in SHAPES:
            draws = some_draws(shape, 7, 6)
            chance = Random(7)
            rounds = chance.sample(sweep(shape, draws), len(sweep(shape, draws)))
            most = summed_table(shape, [(plan, 1) for plan in draws]).rows
            world = World(shape, draws, rounds)
            for _ in range(150):
                world(any_deed(chance, world))
                self.assertTrue(all(count <= amount for row, amounts in zip(world.tally(), most)
                                    for count, amount in zip(row, amounts)))
            finish(world)
            self.assertEqual(world.tally(), most)
            rating = [[abs(number) for number in row] for row in any_rating(shape, 3)]
            least = min(rate_plan(shape, rating, plan) for plan in plans(shape))
            rate = rate_table(rating, Table(shape, len(draws), world.tally()))
            self.assertGreaterEqual(rate, least * len(draws))

    def test_houses_cannot_pass_for_a_box(self):
        share = plain_share(BOX)
        self.assertLess(share.mixture.total, share.bottom * BOX.whole)
        draws = some_draws(SQUARE, 4, 10)
        world = World(SQUARE, draws, sweep(SQUARE, draws))
        finish(world)
        found = Table(SQUARE, len(draws), world.tally())
        self.assertGreaterEqual(rate_table(share.costs, found), share.bottom * len(draws))
        self.assertLess(rate_table(share.costs, BOX), share.bottom * BOX.whole)


class Rebuilt(unittest.TestCase):
    def test_the_logs_are_the_given_ones_and_nothing_is_said(self):
        for shape in SHAPES:
            for seed in range(5):
                world = done(shape, seed)
                logs = [world.log(hand) for hand in range(len(shape))]
                before = deepcopy(logs)
                again = World.rebuilt(shape, list(world.plans_shared), list(world.schedule), logs)
                self.assertIs(type(again), World)
                self.assertEqual((again.shape, again.plans_shared, again.schedule),
                                 (shape, world.plans_shared, world.schedule))
                self.assertEqual([again.log(hand) for hand in range(len(shape))], before)
                self.assertEqual((again.sent(), list(again.judged())), ([], []))
                self.assertFalse(any((hand, number) in again for hand in range(len(shape)) for number in range(12)))
                for hand, log in enumerate(before):
                    self.assertEqual((again.say(hand), again.say(hand)), (len(log), 0))
                self.assertEqual(again.sent(), [(hand, *note) for hand, log in enumerate(before) for note in log])
                # Neither world has the lists of the other one, and the arguments stay as they are.
                self.assertEqual(logs, before)
                for log in logs:
                    log.clear()
                self.assertEqual([again.log(hand) for hand in range(len(shape))], before)
                self.assertEqual([world.log(hand) for hand in range(len(shape))], before)

    def test_a_rebuilt_world_goes_on(self):
        world = World.rebuilt(SQUARE, (PLAN, OTHER), tuple(ROUNDS), ([(4, 0), (0, 1)], []))
        self.assertEqual([world.ask(0, 0), world.ask(0, 3), world.ask(1, 0)], [1, 1, 1])
        self.assertEqual((world.log(0), world.log(1)), ([(4, 0), (0, 1), (3, 1)], [(0, 1)]))
        again = World.rebuilt(shape=SQUARE, draws=[PLAN, OTHER], schedule=ROUNDS,
                              logs=(tuple(world.log(0)), tuple(world.log(1))))
        self.assertEqual([again.log(hand) for hand in (0, 1)], [world.log(hand) for hand in (0, 1)])

    def test_wrong_notes(self):
        right = [[(4, 0), (0, 1), (2, 1)], [(0, 1), (4, 1)]]
        self.assertIsNone(raised(World.rebuilt, SQUARE, [PLAN, OTHER], ROUNDS, right))
        wrong = {0: [(5, 0), (-1, 0), (-5, 0), (GREAT, 0), (3, 0), (3, 2), (3, -1), (1, 0)],
                 1: [(5, 1), (-1, 1), (-5, 1), (GREAT, 1), (3, 0), (3, 2), (3, -1), (1, 1)]}
        for hand in (0, 1):
            for note in [*wrong[hand], *right[hand]]:
                for at in range(len(right[hand]) + 1):
                    logs = deepcopy(right)
                    logs[hand].insert(at, note)
                    # A note that occurs a second time is wrong where it does.
                    first = at
                    if note in right[hand]:
                        first = max(at, right[hand].index(note) + (at <= right[hand].index(note)))
                    self.wrong(logs, hand, first)
                    # The first wrong note of the first hand counts.
                    logs[hand].append((-9, 0))
                    self.wrong(logs, hand, first)
                    if hand == 0:
                        logs[1].insert(0, (77, 0))
                        self.wrong(logs, hand, first)

    def wrong(self, logs, hand, at):
        error = raised(World.rebuilt, SQUARE, [PLAN, OTHER], ROUNDS, logs)
        self.assertIs(type(error), InvalidLog)
        self.assertEqual((error.hand, error.at), (hand, at))

    def test_logs_of_a_world_without_rounds(self):
        error = raised(World.rebuilt, THREE_HANDS, [], [], [[], [], [(0, 0)]])
        self.assertIs(type(error), InvalidLog)
        self.assertEqual((error.hand, error.at), (2, 0))


class Errors(unittest.TestCase):
    LOGS = ([[], []], [[(9, 9)], []])

    def wrong(self, kind, shape, draws, schedule):
        self.assertIs(type(raised(World, shape, draws, schedule)), kind)
        self.assertIs(type(raised(World, shape, tuple(draws), tuple(schedule))), kind)
        for logs in self.LOGS:
            self.assertIs(type(raised(World.rebuilt, shape, draws, schedule, logs)), kind)

    def test_shapes(self):
        for shape in INVALID:
            for draws in ([], [PLAN], [((0,),)]):
                for schedule in ([], [(0, (0, 0))], [(7, (0, 0))]):
                    self.wrong(InvalidShape, shape, draws, schedule)

    def test_draws(self):
        for plan in (((0, 1),), ((0, 1), (1,)), ((0, 1), (1, 2)), ((0, 1), (-1, 0)), ((0, 1), (1, 1), (0,)),
                     (), ((0, 1, 0), (1, 1)), ((0, GREAT), (1, 1))):
            for draws in ([plan], [PLAN, plan], [plan, PLAN], [PLAN, OTHER, plan, plan]):
                for schedule in ([], [(0, (0, 0))], [(7, (0, 0))], [(0, (0, 2))]):
                    self.wrong(InvalidPlan, SQUARE, draws, schedule)

    def test_rounds(self):
        for pair in ((2, (0, 0)), (-1, (0, 0)), (GREAT, (0, 0)), (-2, (1, 1)), (0, (0, 2)), (0, (2, 0)), (0, (-1, 0)),
                     (0, (0, -1)), (0, (0,)), (1, (0, 0, 0)), (1, ()), (1, (0, GREAT))):
            for schedule in ([pair], [*ROUNDS, pair], [pair, *ROUNDS], [*ROUNDS, pair, pair]):
                self.wrong(InvalidWorld, SQUARE, [PLAN, OTHER], schedule)
        self.wrong(InvalidWorld, SQUARE, [], [(0, (0, 0))])
        self.wrong(InvalidWorld, SQUARE, [], [(-1, (0, 0))])
        self.wrong(InvalidWorld, ((1, 2), (3, 2)), [((0,), (0, 0, 1))], [(0, (1, 0))])

    def test_all_errors_in_order(self):
        draws, schedule = [PLAN, ((0,), (0,))], [(5, (9, 9))]
        self.wrong(InvalidShape, ((2, 2), (2, 1)), draws, schedule)
        self.wrong(InvalidPlan, SQUARE, draws, schedule)
        self.wrong(InvalidWorld, SQUARE, draws[:1], schedule)
        error = raised(World.rebuilt, SQUARE, draws[:1], [(0, (1, 1))], self.LOGS[1])
        self.assertIs(type(error), InvalidLog)
