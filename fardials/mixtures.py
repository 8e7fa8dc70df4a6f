"""Mixtures: plans with weights."""

from fardials.errors import InvalidMixture
from fardials.plans import is_plan
from fardials.shapes import check_shape
from fardials.tables import Table, plan_table


class Mixture:
    """A mixture with its shape and a tuple of pairs (plan, weight) in order."""

    def __init__(self, shape, pairs):
        check_shape(shape)
        kept = tuple([(plan, weight) for plan, weight in pairs])
        check_pairs(shape, kept)
        self.shape = shape
        self.pairs = kept

    @classmethod
    def gathered(cls, shape, pairs):
        """The mixture of these pairs in any order, with the weights of equal plans added."""
        check_shape(shape)
        weights = {}
        for at, (plan, weight) in enumerate(pairs):
            if not is_plan(shape, plan) or weight < 0:
                raise InvalidMixture(at)
            weights[plan] = weights.get(plan, 0) + weight
        return cls(shape, [(key, weights[key]) for key in sorted(weights) if weights[key] > 0])

    @property
    def total(self):
        """The sum of the weights."""
        return sum([weight for plan, weight in self.pairs])

    def __contains__(self, x):
        """Whether the plan x is the plan of a pair."""
        return any([plan == x for plan, weight in self.pairs])

    def __iter__(self):
        return iter(self.pairs)


def check_pairs(shape, pairs):
    """Raises InvalidMixture with the index of the first wrong pair."""
    before = None
    for at, (plan, weight) in enumerate(pairs):
        if not is_plan(shape, plan) or weight < 1:
            raise InvalidMixture(at)
        if before is not None and plan <= before:
            raise InvalidMixture(at)
        before = plan


def mixture_table(mixture):
    """The sum of the tables of the plans, each multiplied by its weight."""
    table = Table.empty(mixture.shape)
    for plan, weight in mixture.pairs:
        table = table + weight * plan_table(mixture.shape, plan)
    return table


def draws(mixture):
    """Yields the plans in ascending order, each as often as its weight."""
    for plan, weight in mixture.pairs:
        for _ in range(weight):
            yield plan
