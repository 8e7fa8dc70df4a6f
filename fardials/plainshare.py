"""The greatest plain share of any table."""

from fardials.best import best
from fardials.mixtures import Mixture
from fardials.plans import plan_outcome, plans
from fardials.shapes import contexts, outcomes
from fardials.shares import Share


def plain_share(table):
    """A share of the table, in lowest terms."""
    shape = table.shape
    choices = list(plans(shape))
    found = best(entry_rows(shape, choices), gains=[1] * len(choices),
                 limits=[amount for row in table.rows for amount in row])
    pairs = [(plan, weight) for plan, weight in zip(choices, found.solution) if weight > 0]
    return Share(Mixture(shape, pairs), bottom=found.bottom, costs=rows_of(shape, found.prices))


def entry_rows(shape, choices):
    """For each entry in order, 1 for each of the plans that shows it and 0 for the others."""
    return [[1 if plan_outcome(plan, context) == outcome else 0 for plan in choices]
            for context in contexts(shape) for outcome in outcomes(shape)]


def rows_of(shape, numbers):
    """The list of numbers of all entries as rows, one for each context."""
    width = len(outcomes(shape))
    return [numbers[at * width:(at + 1) * width] for at in range(len(contexts(shape)))]
