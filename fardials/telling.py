"""What hands tell: amounts of groups, leaks and quiet tables."""

from fardials.errors import TellsAcross
from fardials.shapes import contexts, other_hands, outcomes, tuples_below


def group_amount(table, hands, context, signs):
    """The amount of a group of hands with these signs at the context."""
    return sum([amount for outcome, amount in zip(outcomes(table.shape), table[context])
                if shows(outcome, hands, signs)])


def shows(outcome, hands, signs):
    """Whether the hands have these signs in the outcome."""
    return all([outcome[hand] == sign for hand, sign in zip(hands, signs)])


def single(table, hand, dial):
    """The amount of each sign of the hand at this dial, with all other dials 0."""
    context = with_dial((0,) * len(table.shape), hand, dial)
    dials, signs = table.shape[hand]
    return tuple([group_amount(table, (hand,), context, (sign,)) for sign in range(signs)])


def with_dial(context, hand, dial):
    """The context in which the dial of one hand is replaced."""
    return (*context[:hand], dial, *context[hand + 1:])


def first_telling(table):
    """The first leak of the table, or None if it is quiet."""
    for hand in range(len(table.shape)):
        for context in contexts(table.shape):
            signs = told_signs(table, hand, context)
            if signs is not None:
                return (hand, context, signs)
    return None


def told_signs(table, hand, context):
    """The first signs of the other hands whose amount changes at dial 0 of the hand, or None."""
    others = other_hands(table.shape, hand)
    silent = with_dial(context, hand, 0)
    for signs in tuples_below([table.shape[other][1] for other in others]):
        amount = group_amount(table, others, context, signs)
        if amount != group_amount(table, others, silent, signs):
            return signs
    return None


def check_quiet(table):
    """Raises TellsAcross with the first leak if the table is not quiet."""
    leak = first_telling(table)
    if leak is not None:
        raise TellsAcross(leak)
