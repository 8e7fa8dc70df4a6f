"""Two dials on each side: ways, their boxes, and what quiet tables are made of."""

from fardials.errors import InvalidWay, WrongShape
from fardials.meeting import meeting_share
from fardials.mixtures import Mixture
from fardials.ratings import marked_rating
from fardials.shapes import context_index, contexts, outcomes, tuples_below
from fardials.shares import Share
from fardials.tables import Table
from fardials.telling import check_quiet

SQUARE = ((2, 2), (2, 2))


def ways():
    """The tuple of the eight ways in order."""
    return tuple([kinds for kinds in tuples_below([2, 2, 2, 2]) if sum(kinds) % 2 == 1])


def check_way(way):
    """Raises InvalidWay unless this is one of the eight ways."""
    if way not in ways():
        raise InvalidWay("a way has four kinds, 0 or 1, with an odd sum")


def check_square(table):
    """Raises WrongShape unless the table has two hands with two dials and two signs each."""
    if table.shape != SQUARE:
        raise WrongShape("both hands have two dials and two signs")


def kind_at(way, context):
    """The kind of a context: 0 if the way keeps signs that are alike, 1 if unlike ones."""
    return way[context_index(SQUARE, context)]


def keeps(way, context, outcome):
    """Whether the way keeps the outcome at the context."""
    return (sum(outcome) + kind_at(way, context)) % 2 == 0


def lost_entries(way):
    """Yields the lost entries of the way, pairs (context, outcome), in order."""
    check_way(way)
    for context in contexts(SQUARE):
        for outcome in outcomes(SQUARE):
            if not keeps(way, context, outcome):
                yield (context, outcome)


def box(way):
    """The table of whole 2 with 1 at each kept entry of the way."""
    check_way(way)
    rows = [[1 if keeps(way, context, outcome) else 0 for outcome in outcomes(SQUARE)]
            for context in contexts(SQUARE)]
    return Table(SQUARE, 2, rows)


def excess(table, way):
    """The whole less the amounts of the lost entries of the way."""
    check_square(table)
    return table.whole - sum([table.amount(context, outcome)
                              for context, outcome in lost_entries(way)])


def broken_way(table):
    """The way with an excess above 0, or None."""
    for way in ways():
        if excess(table, way) > 0:
            return way
    return None


def lost_plan(way, context, outcome):
    """The plan that loses at this context alone, with this outcome."""
    check_way(way)
    if keeps(way, context, outcome):
        raise InvalidWay("the way keeps the outcome at the context")
    (x, y), (a, b) = context, outcome
    # The way keeps these signs together with one sign of the outcome.
    beside_b = (b + kind_at(way, (1 - x, y))) % 2
    beside_a = (a + kind_at(way, (x, 1 - y))) % 2
    return (row_with(x, a, beside_b), row_with(y, b, beside_a))


def row_with(dial, sign, other):
    """The row of two signs with this sign at the dial and the other sign at the other dial."""
    return (sign, other) if dial == 0 else (other, sign)


def corner_form(table):
    """The broken way of the table, its number of boxes, and the mixture of all the rest."""
    check_square(table)
    check_quiet(table)
    way = broken_way(table)
    if way is None:
        return (None, 0, meeting_share(table).mixture)
    pairs = [(lost_plan(way, context, outcome), table.amount(context, outcome))
             for context, outcome in lost_entries(way)]
    return (way, excess(table, way) // 2, Mixture.gathered(SQUARE, pairs))


def square_share(table):
    """A share of the table with the bottom 1."""
    way, _, mixture = corner_form(table)
    if way is None:
        return meeting_share(table)
    return Share(mixture, bottom=1, costs=marked_rating(SQUARE, list(lost_entries(way))))
