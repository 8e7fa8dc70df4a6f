"""Corners: quiet tables that are no sum of two that are no multiples of each other."""

from fardials.halves import Half, half_table, halves
from fardials.mixtures import Mixture
from fardials.tables import plan_table


def broken_square(half):
    """The first broken square of the half, or None."""
    left, right = half.live
    for first, second in dial_pairs(left):
        for third, fourth in dial_pairs(right):
            kinds = [half.kinds[x][y] for x in (first, second) for y in (third, fourth)]
            if sum(kinds) % 2 == 1:
                return (first, second, third, fourth)
    return None


def dial_pairs(dials):
    """All pairs of a dial and a later one, in order."""
    return [(first, second) for first in dials for second in dials if first < second]


def half_plans(half):
    """The two plans whose tables add up to the table of the half, or None without such plans."""
    if broken_square(half) is not None:
        return None
    first = first_plan(half)
    second = tuple([row_of_signs(states, [1 - sign for sign in signs])
                    for states, signs in zip(half.states, first)])
    return (first, second)


def first_plan(half):
    """The plan of a half without broken square that shows 0 at its first live dial."""
    left, right = half.live
    # If one hand has no live dial, all kinds are 0, and so are the signs that they tell.
    x = left[0] if len(left) > 0 else 0
    y = right[0] if len(right) > 0 else 0
    facing = half.kinds[x]
    behind = [facing[y] ^ row[y] for row in half.kinds]
    return (row_of_signs(half.states[0], behind), row_of_signs(half.states[1], facing))


def row_of_signs(states, signs):
    """The row of a plan with these signs at live dials, and the states of fixed ones."""
    return tuple([sign if state == Half.LIVE else state for state, sign in zip(states, signs)])


def split_table(table):
    """A mixture and the broken halves, with their counts, that make up twice the table."""
    pairs = []
    broken = []
    for half, count in halves(table):
        found = half_plans(half)
        if found is None:
            broken.append((half, count))
        else:
            pairs.extend([(plan, count) for plan in found])
    return (Mixture.gathered(table.shape, pairs), broken)


def two_parts(table):
    """Two quiet tables, no multiples of each other, with the sum 2 * table, or None."""
    runs = halves(table)
    if len(runs) == 0:
        return None
    half, count = runs[0]
    if len(runs) > 1:
        first = count * half_table(half)
        return (first, 2 * table - first)
    found = half_plans(half)
    if found is None or found[0] == found[1]:
        return None
    return tuple([count * plan_table(table.shape, plan) for plan in found])
