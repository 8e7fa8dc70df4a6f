"""Strongest boxes: the quiet tables with the best rate, and prices that show that none is better."""

from fardials.best import best
from fardials.plainshare import rows_of
from fardials.ratings import check_rating, rate_table
from fardials.shapes import contexts, outcomes
from fardials.short import entry_terms, full_form, places, short_rating
from fardials.telling import first_telling


class BoxBest:
    """A table, its worth, and a tuple of rows of prices."""

    def __init__(self, table, worth, prices):
        check_rating(table.shape, prices)
        self.table = table
        self.worth = worth
        self.prices = tuple([tuple(row) for row in prices])


def is_box_best(shape, rating, found):
    """Whether the prices show that no quiet table has a better rate than the table that was found."""
    check_rating(shape, rating)
    table = found.table
    return (table.shape == shape and table.whole >= 1 and first_telling(table) is None
            and rate_table(rating, table) == found.worth
            and all([price >= 0 for row in found.prices for price in row])
            and prices_bound(shape, rating, found))


def prices_bound(shape, rating, found):
    """Whether the rating with the prices rates quiet tables by their whole alone, or lower."""
    paid = [[number * found.table.whole + price for number, price in zip(row, prices)]
            for row, prices in zip(rating, found.prices)]
    first, *others = short_rating(shape, paid)
    return first == found.worth and all([number <= 0 for number in others])


def box_best(shape, rating):
    """A quiet table with the best rate, with prices that show it."""
    gains = short_rating(shape, rating)[1:]
    factors = entry_factors(shape)
    found = best([[-factor for factor in row[1:]] for row in factors],
                 limits=[row[0] for row in factors], gains=gains)
    table = full_form(shape, [found.bottom, *found.solution])
    return BoxBest(table, rate_table(rating, table), rows_of(shape, found.prices))


def entry_factors(shape):
    """For each entry in order, the factors of its terms at all places, and 0 without a term."""
    return [place_factors(shape, entry_terms(shape, context, outcome))
            for context in contexts(shape) for outcome in outcomes(shape)]


def place_factors(shape, terms):
    """The factors of these terms, one for each place."""
    found = [0] * len(places(shape))
    for index, factor in terms:
        found[index] = factor
    return found
