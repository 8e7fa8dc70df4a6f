"""Shares of quiet tables in which hand 0 has two dials, and both hands have two signs."""

from fardials.mixtures import Mixture
from fardials.ratings import marked_rating
from fardials.shapes import outcomes
from fardials.shares import Share
from fardials.stretches import all_stretches, gap, joint, meeting, sign_amounts

# The signs of the two dials of hand 0, in the order of the pairs of a joint.
CELLS = ((0, 0), (0, 1), (1, 0), (1, 1))


def broken_pair(table):
    """The first dials with the greatest low end and the least high end, or None without gap."""
    if gap(table) == 0:
        return None
    lows = [low for low, high in all_stretches(table)]
    highs = [high for low, high in all_stretches(table)]
    return (lows.index(max(lows)), highs.index(min(highs)))


def meeting_share(table):
    """A share with the bottom 1 whose total is the whole less twice the gap."""
    return Share(met_mixture(table), bottom=1, costs=met_costs(table))


def met_mixture(table):
    """The mixture of a meeting share."""
    stretches = list(all_stretches(table))
    least, most = meeting(stretches)
    joints = [joint(table, dial, max(low, min(least, most)))
              for dial, (low, high) in enumerate(stretches)]
    pairs = []
    for at, units in enumerate(cell_units(table, least, most)):
        pairs.extend(cell_pairs(CELLS[at], units, [found[at][0] for found in joints]))
    return Mixture.gathered(table.shape, pairs)


def cell_units(table, least, most):
    """How many draws show the signs of each cell, in the order of the cells."""
    p, _, r = sign_amounts(table, 0)
    met = min(least, most)
    return (table.whole - sum(p) - sum(r) + met, sum(r) - least, sum(p) - least, met)


def cell_pairs(cell, units, changes):
    """The plans of a cell with their weights.

    At each dial of hand 1, the first units, as many as its change says, show 0, the others 1.
    """
    cuts = sorted(set([0, units] + [min(change, units) for change in changes]))
    return [((cell, tuple([0 if start < change else 1 for change in changes])), end - start)
            for start, end in zip(cuts, cuts[1:])]


def met_costs(table):
    """The costs of a meeting share."""
    pair = broken_pair(table)
    if pair is None:
        return marked_rating(table.shape, [((0, 0), outcome) for outcome in outcomes(table.shape)])
    first, second = pair
    return marked_rating(table.shape, unlike_entries(table, first) + like_entries(table, second))


def unlike_entries(table, dial):
    """The entries at the dial of which a plan shows one if its signs of hand 0 differ."""
    p, q, r = sign_amounts(table, dial)
    paid = [0 if p[sign] + r[sign] > q[sign] else 1 for sign in range(2)]
    return [((turned, dial), (paid[sign], sign)) for turned in range(2) for sign in range(2)]


def like_entries(table, dial):
    """The entries at the dial of which a plan shows one if its signs of hand 0 are equal."""
    p, _, r = sign_amounts(table, dial)
    paid = [1 if p[sign] <= r[sign] else 0 for sign in range(2)]
    return [entry for sign in range(2)
            for entry in (((0, dial), (paid[sign], sign)), ((1, dial), (1 - paid[sign], sign)))]
