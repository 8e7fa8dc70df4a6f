"""Shares: mixtures below a table, with costs that show that none is greater."""

from fardials.errors import InvalidShare
from fardials.mixtures import mixture_table
from fardials.plans import plans
from fardials.ratings import check_rating, rate_plan, rate_table
from fardials.tables import lies_below


class Share:
    """A share with its mixture, its bottom and a tuple of rows of costs."""

    def __init__(self, mixture, *, bottom, costs):
        check_rating(mixture.shape, costs)
        if bottom < 1:
            raise InvalidShare("the bottom is below 1")
        self.mixture = mixture
        self.bottom = bottom
        self.costs = tuple([tuple(row) for row in costs])


def is_share(table, share):
    """Whether the share keeps all conditions of a share of the table."""
    if table.shape != share.mixture.shape:
        return False
    return (all([cost >= 0 for row in share.costs for cost in row])
            and lies_below(mixture_table(share.mixture), table * share.bottom)
            and costs_every_plan(share)
            and rate_table(share.costs, table) == share.mixture.total)


def costs_every_plan(share):
    """Whether each plan, rated by the costs, gives at least the bottom."""
    shape = share.mixture.shape
    return all([rate_plan(shape, share.costs, plan) >= share.bottom for plan in plans(shape)])
