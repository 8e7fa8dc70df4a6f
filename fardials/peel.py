"""Peeling a table: plans are taken off it in order, each as often as it still fits."""

from fardials.mixtures import Mixture
from fardials.plans import plan_outcome, plans
from fardials.shapes import contexts, outcome_index


def peel(table):
    """The mixture of the plans that are taken off the table, each as often as it fits."""
    left = [list(row) for row in table.rows]
    pairs = []
    for plan in plans(table.shape):
        columns = shown_columns(table.shape, plan)
        weight = min([row[column] for row, column in zip(left, columns)])
        if weight > 0:
            pairs.append((plan, weight))
            for at, column in enumerate(columns):
                left[at][column] = left[at][column] - weight
    return Mixture(table.shape, pairs)


def shown_columns(shape, plan):
    """For each context, the index of the outcome that the plan shows there."""
    return [outcome_index(shape, plan_outcome(plan, context)) for context in contexts(shape)]
