"""Thin mixtures: no table of a plan depends on those of the other plans."""

from fardials.clearing import reduced
from fardials.dependence import dependency
from fardials.mixtures import Mixture
from fardials.tables import plan_table


def entry_vector(table):
    """The tuple of all amounts of the table, row after row."""
    return tuple([amount for row in table.rows for amount in row])


def plan_vectors(mixture):
    """The entry vectors of the tables of the plans of a mixture."""
    return [entry_vector(plan_table(mixture.shape, plan)) for plan, weight in mixture.pairs]


def is_thin(mixture):
    """Whether the entry vectors of the plans are independent."""
    return dependency(plan_vectors(mixture)) is None


def thin(mixture):
    """A thin mixture of the same plans, and by how much its table is multiplied."""
    kept = [plan for plan, weight in mixture.pairs]
    weights = [weight for plan, weight in mixture.pairs]
    vectors = plan_vectors(mixture)
    bottom = 1
    found = dependency(vectors)
    while found is not None:
        bottom, *changed = changed_weights(bottom, weights, found)
        left = [at for at, weight in enumerate(changed) if weight > 0]
        kept = [kept[at] for at in left]
        weights = [changed[at] for at in left]
        vectors = [vectors[at] for at in left]
        found = dependency(vectors)
    return (Mixture(mixture.shape, list(zip(kept, weights))), bottom)


def changed_weights(bottom, weights, found):
    """The bottom and the weights, in lowest terms, after a dependency has used up a plan."""
    at = first_used_up(weights, found)
    times, taken = found[at], weights[at]
    changed = [weight * times - taken * number for weight, number in zip(weights, found)]
    return reduced([bottom * times, *changed])


def first_used_up(weights, found):
    """The index with a number above 0 for which the weight, divided by the number, is least."""
    least = None
    for at, number in enumerate(found):
        if number > 0 and (least is None or weights[at] * found[least] < weights[least] * number):
            least = at
    return least
