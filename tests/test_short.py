"""Promises 20 and 25 to 34: places, terms, short forms, full forms and short ratings."""

import unittest
from itertools import product

from fardials.errors import InvalidRating, InvalidShort
from fardials.ratings import rate_table
from fardials.shapes import contexts, outcomes
from fardials.short import entry_terms, full_form, places, short_form, short_rating
from fardials.tables import Table, plan_table
from fardials.telling import first_telling, group_amount
from fardials.views import left_out, reordered, restricted
from tests.samples import (BOX, FULL_SHAPES, GREAT, ONE_HAND, SHAPES, SQUARE, any_rating, any_table,
                           quiet_table, valid_shapes)

SHAPE = ((1, 2), (2, 2))


def option_number(signs, option):
    return 0 if option is None else 1 + option[0] * (signs - 1) + option[1]


def place_numbers(shape, place):
    return tuple(option_number(signs, option) for (dials, signs), option in zip(shape, place))


def chosen_terms(shape, context, outcome):
    """The terms of an entry as the document tells them: a dict of places and factors."""
    terms = []
    for (dials, signs), dial, sign in zip(shape, context, outcome):
        last = [(None, 1), *[((dial, other), -1) for other in range(signs - 1)]]
        terms.append(last if sign == signs - 1 else [((dial, sign), 1)])
    found = {}
    for choice in product(*terms):
        factor = 1
        for _, times in choice:
            factor *= times
        found[tuple(option for option, _ in choice)] = factor
    return found


def entries(shape):
    return [(context, outcome) for context in contexts(shape) for outcome in outcomes(shape)]


def wanted_form(table):
    numbers = []
    for place in places(table.shape):
        hands = tuple(hand for hand, option in enumerate(place) if option is not None)
        context = tuple(0 if option is None else option[0] for option in place)
        signs = tuple(place[hand][1] for hand in hands)
        numbers.append(group_amount(table, hands, context, signs))
    return tuple(numbers)


class Places(unittest.TestCase):
    def test_examples(self):
        self.assertEqual(places(((1, 2), (2, 2))),
                         [(None, None), (None, (0, 0)), (None, (1, 0)),
                          ((0, 0), None), ((0, 0), (0, 0)), ((0, 0), (1, 0))])
        self.assertEqual(places(((2, 3),)),
                         [(None,), ((0, 0),), ((0, 1),), ((1, 0),), ((1, 1),)])

    def test_all_places_in_order(self):
        for shape in SHAPES:
            found = places(shape)
            options = [[None, *product(range(dials), range(signs - 1))] for dials, signs in shape]
            self.assertEqual(sorted(found, key=lambda place: place_numbers(shape, place)), found)
            self.assertEqual(set(found), set(product(*options)))

    def test_number_of_places(self):
        counts = []
        for shape in valid_shapes():
            count = 1
            for dials, signs in shape:
                count *= 1 + dials * (signs - 1)
            self.assertEqual(len(places(shape)), count)
            self.assertEqual(len(set(places(shape))), count)
            counts.append(count)
        self.assertEqual(max(counts), 30)

    def test_new_lists(self):
        places(SHAPE).clear()
        entry_terms(SHAPE, (0, 1), (1, 1)).clear()
        self.assertEqual(len(places(SHAPE)), 6)
        self.assertEqual(len(entry_terms(SHAPE, (0, 1), (1, 1))), 4)


class Terms(unittest.TestCase):
    def test_examples(self):
        self.assertEqual(entry_terms(SHAPE, (0, 1), (1, 1)), [(0, 1), (2, -1), (3, -1), (5, 1)])
        self.assertEqual(entry_terms(SHAPE, (0, 1), (0, 0)), [(5, 1)])
        self.assertEqual(entry_terms(SHAPE, (0, 1), (0, 1)), [(3, 1), (5, -1)])
        self.assertEqual(entry_terms(ONE_HAND, (1,), (1,)), [(4, 1)])
        self.assertEqual(entry_terms(ONE_HAND, (1,), (2,)), [(0, 1), (3, -1), (4, -1)])

    def test_every_entry(self):
        for shape in SHAPES:
            found = places(shape)
            for context, outcome in entries(shape):
                terms = entry_terms(shape, context, outcome)
                self.assertEqual([index for index, _ in terms], sorted({k for k, _ in terms}))
                self.assertEqual({found[index]: factor for index, factor in terms},
                                 chosen_terms(shape, context, outcome))

    def test_terms_summed_over_the_signs_of_a_hand(self):
        for shape in SHAPES:
            found = places(shape)
            for hand, (dials, signs) in enumerate(shape):
                for context, outcome in entries(shape):
                    total = {}
                    for sign in range(signs):
                        changed = outcome[:hand] + (sign,) + outcome[hand + 1:]
                        for index, factor in entry_terms(shape, context, changed):
                            total[found[index]] = total.get(found[index], 0) + factor
                    left = {place for place, factor in total.items() if factor != 0}
                    self.assertEqual({place[hand] for place in left}, {None})


class ShortForms(unittest.TestCase):
    def test_example(self):
        self.assertEqual(short_form(Table(SHAPE, 3, [[1, 0, 2, 0], [0, 1, 1, 1]])),
                         (3, 3, 1, 1, 1, 0))
        self.assertEqual(short_form(BOX), (2, 1, 1, 1, 1, 1, 1, 1, 0))
        self.assertEqual(short_form(Table(ONE_HAND, 6, [[1, 2, 3], [4, 0, 2]])), (6, 1, 2, 4, 0))

    def test_whole_0_and_great_numbers(self):
        self.assertEqual(short_form(Table.empty(SHAPE)), (0,) * 6)
        self.assertEqual(short_form(BOX * GREAT), tuple(GREAT * k for k in short_form(BOX)))

    def test_quiet_and_loud_tables(self):
        for shape in SHAPES:
            for table in (any_table(shape, 1), quiet_table(shape, 1)):
                self.assertEqual(short_form(table), wanted_form(table))
                self.assertEqual(short_form(table)[0], table.whole)


class FullForms(unittest.TestCase):
    def test_ordinary(self):
        table = full_form(SHAPE, (3, 2, 1, 1, 1, 0))
        self.assertEqual(table, Table(SHAPE, 3, [[1, 0, 1, 1], [0, 1, 1, 1]]))
        self.assertEqual(full_form(SHAPE, [3, 2, 1, 1, 1, 0]), table)
        self.assertEqual(full_form(ONE_HAND, (6, 1, 2, 4, 0)),
                         Table(ONE_HAND, 6, [[1, 2, 3], [4, 0, 2]]))
        self.assertEqual(full_form(SQUARE, (2, 1, 1, 1, 1, 1, 1, 1, 0)), BOX)

    def test_the_numbers_are_not_modified(self):
        numbers = [3, 2, 1, 1, 1, 0]
        table = full_form(SHAPE, numbers)
        numbers[0] = 7
        self.assertEqual(numbers, [7, 2, 1, 1, 1, 0])
        self.assertEqual(table.whole, 3)

    def test_wrong_number_of_integers(self):
        for numbers in ((), (1,), (3, 2, 1, 1, 1), (3, 2, 1, 1, 1, 0, 0), (-1,) * 5, (0,) * 7):
            with self.subTest(numbers), self.assertRaises(InvalidShort):
                full_form(SHAPE, numbers)

    def test_amounts_below_0(self):
        for numbers in ((-1, 0, 0, 0, 0, 0), (3, 2, 1, 1, 1, -1), (3, 2, 1, 1, 2, 0),
                        (3, 4, 1, 1, 1, 0), (0, 0, 0, 0, 0, 1), (3, 3, 3, 3, 2, 3),
                        (GREAT, -GREAT, 0, 0, 0, 0)):
            with self.subTest(numbers), self.assertRaises(InvalidShort):
                full_form(SHAPE, numbers)

    def test_all_small_numbers_of_a_shape(self):
        shape = ((1, 2), (1, 2))
        for numbers in product(range(-1, 4), repeat=4):
            whole, right, left, both = numbers
            row = (both, left - both, right - both, whole - left - right + both)
            if min(row) < 0:
                with self.assertRaises(InvalidShort):
                    full_form(shape, numbers)
            else:
                table = full_form(shape, numbers)
                self.assertEqual((table.whole, table.rows), (whole, (row,)))
                self.assertEqual(short_form(table), numbers)

    def test_quiet_tables_come_back(self):
        for shape in SHAPES:
            for table in (quiet_table(shape, 2), Table.empty(shape), quiet_table(shape, 3) * GREAT):
                self.assertEqual(full_form(shape, short_form(table)), table)
                self.assertEqual(full_form(shape, list(short_form(table))), table)

    def test_loud_tables_do_not_come_back(self):
        outcomes_seen = set()
        for shape in SHAPES:
            loud = [any_table(shape, 4), *[quiet_table(shape, 5) + any_table(shape, k, 1)
                                           for k in range(5)]]
            for table in loud:
                if first_telling(table) is None:
                    continue
                try:
                    other = full_form(shape, short_form(table))
                except InvalidShort:
                    outcomes_seen.add("refused")
                    continue
                outcomes_seen.add("another")
                self.assertNotEqual(other, table)
                self.assertIsNone(first_telling(other))
        self.assertEqual(outcomes_seen, {"refused", "another"})


class ShortFormsOfViews(unittest.TestCase):
    def picked(self, table, kept):
        """The numbers of the short form at the places that are kept, in order."""
        return tuple(number for place, number in zip(places(table.shape), short_form(table))
                     if kept(place))

    def test_left_out(self):
        for shape in SHAPES:
            table = quiet_table(shape, 6)
            for hand in range(len(shape)) if len(shape) > 1 else ():
                wanted = self.picked(table, lambda place: place[hand] is None)
                for dial in range(shape[hand][0]):
                    self.assertEqual(short_form(left_out(table, hand, dial)), wanted)

    def test_restricted(self):
        for shape in SHAPES:
            table = quiet_table(shape, 7)
            for hand, (dials, signs) in enumerate(shape):
                for chosen in ((0,), (dials - 1,), tuple(range(dials))):
                    wanted = self.picked(table, lambda place: place[hand] is None
                                         or place[hand][0] in chosen)
                    self.assertEqual(short_form(restricted(table, hand, dials=chosen)), wanted)

    def test_reordered(self):
        for shape in SHAPES:
            table = quiet_table(shape, 8)
            order = tuple(range(1, len(shape))) + (0,)
            numbers = dict(zip(places(shape), short_form(table)))
            view = reordered(table, order)
            for place, number in zip(places(view.shape), short_form(view)):
                there = [None] * len(shape)
                for k, hand in enumerate(order):
                    there[hand] = place[k]
                self.assertEqual(number, numbers[tuple(there)])


class ShortRatings(unittest.TestCase):
    def test_ordinary(self):
        rating = [[1, 2, 3, 4], [0, 0, 0, 10]]
        # The terms of (1, 1) at the second context: 10 at places 0 and 5, -10 at 2 and 3.
        self.assertEqual(short_rating(SHAPE, rating), (14, -1, -10, 2 - 4 - 10, 1 - 2 - 3 + 4, 10))
        self.assertEqual(short_rating(SHAPE, tuple(map(tuple, rating))),
                         short_rating(SHAPE, rating))
        self.assertEqual(short_rating(((1, 3),), [[5, 7, -GREAT]]), (-GREAT, 5 + GREAT, 7 + GREAT))

    def test_sums_of_terms(self):
        for shape in SHAPES:
            rating = any_rating(shape, 1)
            wanted = dict.fromkeys(places(shape), 0)
            numbers = [number for row in rating for number in row]
            for (context, outcome), number in zip(entries(shape), numbers):
                for place, factor in chosen_terms(shape, context, outcome).items():
                    wanted[place] += factor * number
            self.assertEqual(short_rating(shape, rating), tuple(wanted.values()))

    def test_rates_of_quiet_tables(self):
        for shape in SHAPES:
            rating = any_rating(shape, 2)
            for table in (quiet_table(shape, 9), quiet_table(shape, 9) * GREAT, Table.empty(shape)):
                rate = sum(number * amount for number, amount
                           in zip(short_rating(shape, rating), short_form(table)))
                self.assertEqual(rate, rate_table(rating, table))

    def test_ratings_that_do_not_fit(self):
        for rating, row in (([], -1), ([[1, 2, 3, 4]], -1), ([[1] * 4] * 3, -1),
                            ([[1, 2, 3], [1] * 4], 0), ([[1] * 4, [1] * 5], 1), ([[], []], 0)):
            with self.subTest(rating), self.assertRaises(InvalidRating) as caught:
                short_rating(SHAPE, rating)
            self.assertEqual(caught.exception.row, row)

    def test_the_rating_is_not_modified(self):
        rating = [[1, 2, 3, 4], [0, 0, 0, 10]]
        once = short_rating(SHAPE, rating)
        short_rating(SQUARE, any_rating(SQUARE, 3))
        self.assertEqual(rating, [[1, 2, 3, 4], [0, 0, 0, 10]])
        self.assertEqual(short_rating(SHAPE, rating), once)


class ShapesOf64Plans(unittest.TestCase):
    def test_short_forms_of_plans(self):
        for shape in FULL_SHAPES:
            lowest = plan_table(shape, tuple((0,) * dials for dials, signs in shape))
            highest = plan_table(shape, tuple((1,) * dials for dials, signs in shape))
            self.assertEqual(short_form(lowest), (1,) * len(places(shape)))
            self.assertEqual(short_form(highest), (1,) + (0,) * (len(places(shape)) - 1))
