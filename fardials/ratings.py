"""Ratings: one integer for each entry of a shape, as rows."""

from fardials.errors import InvalidRating
from fardials.plans import check_plan, plan_outcome
from fardials.shapes import contexts, outcome_index, outcomes


def check_rating(shape, rating):
    """Raises InvalidRating with -1 or the index of the first wrong row."""
    if len(rating) != len(contexts(shape)):
        raise InvalidRating(-1)
    width = len(outcomes(shape))
    for at, row in enumerate(rating):
        if len(row) != width:
            raise InvalidRating(at)


def rate_plan(shape, rating, plan):
    """The sum, over all contexts, of the number at the outcome of the plan."""
    check_rating(shape, rating)
    check_plan(shape, plan)
    return sum([row[outcome_index(shape, plan_outcome(plan, context))]
                for context, row in zip(contexts(shape), rating)])


def rate_table(rating, table):
    """The sum, over all entries, of the number times the amount."""
    check_rating(table.shape, rating)
    return sum([number * amount for numbers, amounts in zip(rating, table.rows)
                for number, amount in zip(numbers, amounts)])


def marked_rating(shape, entries):
    """The rating with 1 at these entries, pairs (context, outcome), and 0 elsewhere."""
    return [[1 if (context, outcome) in entries else 0 for outcome in outcomes(shape)]
            for context in contexts(shape)]
