"""Desk: shares by the shortest way, and certificates of shares as texts."""

from fardials.meeting import meeting_share
from fardials.mixtures import Mixture
from fardials.plainshare import plain_share
from fardials.shapes import context_index, contexts, outcome_index, outcomes
from fardials.shares import Share, is_share
from fardials.telling import first_telling
from fardials.texts import read_share, read_table, write_share
from fardials.views import put_back, reordered, reordered_shape


def reordered_share(share, order):
    """The share of the reordered table, in which hand k is hand order[k]."""
    shape = reordered_shape(share.mixture.shape, order)
    pairs = [(tuple([plan[hand] for hand in order]), weight) for plan, weight in share.mixture.pairs]
    costs = [[cost_at(share, put_back(context, order), put_back(outcome, order))
              for outcome in outcomes(shape)] for context in contexts(shape)]
    # The reordered plans are seldom in order.
    return Share(Mixture.gathered(shape, pairs), bottom=share.bottom, costs=costs)


def cost_at(share, context, outcome):
    """The cost of one entry."""
    shape = share.mixture.shape
    return share.costs[context_index(shape, context)][outcome_index(shape, outcome)]


def quick_share(table):
    """A share of any table, with the bottom 1 where one hand of a quiet table has two dials."""
    if [signs for dials, signs in table.shape] != [2, 2] or first_telling(table) is not None:
        return plain_share(table)
    (left, _), (right, _) = table.shape
    if left == 2:
        return meeting_share(table)
    if right == 2:
        return reordered_share(meeting_share(reordered(table, (1, 0))), (1, 0))
    return plain_share(table)


def certificate(text):
    """The written form of a share of the table that the text writes."""
    return write_share(quick_share(read_table(text)))


def judge(text, paper):
    """Whether the paper writes a share of the table that the text writes."""
    table = read_table(text)
    return is_share(table, read_share(paper))
