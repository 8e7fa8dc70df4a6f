"""Short forms of quiet tables: one number for each place."""

from fardials.errors import InvalidShort
from fardials.ratings import check_rating
from fardials.shapes import contexts, outcomes
from fardials.tables import Table
from fardials.telling import group_amount


def places(shape):
    """The list of all places, tuples of options, in order."""
    found = [()]
    for dials, signs in shape:
        options = hand_options(dials, signs)
        found = [(*begun, option) for begun in found for option in options]
    return found


def hand_options(dials, signs):
    """The list of the options of a hand, in order."""
    return [None] + [(dial, sign) for dial in range(dials) for sign in range(signs - 1)]


def sign_terms(signs, dial, sign):
    """The terms of a sign of a hand: pairs (number of an option, factor), in ascending order."""
    first = 1 + dial * (signs - 1)
    if sign < signs - 1:
        return [(first + sign, 1)]
    return [(0, 1)] + [(first + other, -1) for other in range(signs - 1)]


def entry_terms(shape, context, outcome):
    """The list of the terms of an entry: pairs (index of a place, factor), in ascending order."""
    found = [(0, 1)]
    for (dials, signs), dial, sign in zip(shape, context, outcome):
        many = 1 + dials * (signs - 1)
        found = [(index * many + number, factor * times) for index, factor in found
                 for number, times in sign_terms(signs, dial, sign)]
    return found


def short_form(table):
    """The short form of a table, quiet or not."""
    return tuple([place_amount(table, place) for place in places(table.shape)])


def place_amount(table, place):
    """The amount of the group that a place describes."""
    hands = tuple([hand for hand, option in enumerate(place) if option is not None])
    context = tuple([0 if option is None else option[0] for option in place])
    signs = tuple([option[1] for option in place if option is not None])
    return group_amount(table, hands, context, signs)


def full_form(shape, numbers):
    """The table whose entries sum up their terms of these numbers."""
    if len(numbers) != len(places(shape)):
        raise InvalidShort("the numbers are not one for each place")
    rows = [[full_amount(entry_terms(shape, context, outcome), numbers)
             for outcome in outcomes(shape)] for context in contexts(shape)]
    if min([min(row) for row in rows]) < 0:
        raise InvalidShort("an amount is below 0")
    return Table(shape, numbers[0], rows)


def full_amount(terms, numbers):
    """The sum of the numbers at the terms, each times its factor."""
    return sum([factor * numbers[index] for index, factor in terms])


def short_rating(shape, rating):
    """The short rating of a rating: what each place contributes to the rate."""
    check_rating(shape, rating)
    totals = [0] * len(places(shape))
    for context, row in zip(contexts(shape), rating):
        for outcome, number in zip(outcomes(shape), row):
            for index, factor in entry_terms(shape, context, outcome):
                totals[index] = totals[index] + factor * number
    return tuple(totals)
