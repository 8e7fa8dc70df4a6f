"""Views: tables that are read off another table."""

from fardials.errors import WrongShape
from fardials.shapes import contexts, other_hands, outcomes
from fardials.tables import Table
from fardials.telling import group_amount, with_dial


def restricted(table, hand, *, dials):
    """The table in which the hand has only these dials."""
    many, signs = table.shape[hand]
    # The dials that are chosen, in order and once each, are all that may stand there.
    if len(dials) == 0 or list(dials) != [dial for dial in range(many) if dial in dials]:
        raise WrongShape("dials of a view are dials of the hand in ascending order")
    shape = (*table.shape[:hand], (len(dials), signs), *table.shape[hand + 1:])
    rows = [table[with_dial(context, hand, dials[context[hand]])] for context in contexts(shape)]
    return Table(shape, table.whole, rows)


def reordered(table, order):
    """The table in which hand k is hand order[k] of the given table."""
    shape = reordered_shape(table.shape, order)
    rows = [[table.amount(put_back(context, order), put_back(outcome, order))
             for outcome in outcomes(shape)] for context in contexts(shape)]
    return Table(shape, table.whole, rows)


def reordered_shape(shape, order):
    """The shape in which hand k is hand order[k] of the given shape."""
    if sorted(order) != list(range(len(shape))):
        raise WrongShape("an order consists of all hands, each exactly once")
    return tuple([shape[hand] for hand in order])


def put_back(items, order):
    """The tuple that gives hand order[k] the item k."""
    return tuple([items[order.index(hand)] for hand in range(len(order))])


def left_out(table, hand, /, dial=0):
    """The table of the other hands, for one dial of the hand."""
    others = other_hands(table.shape, hand)
    if len(others) == 0:
        raise WrongShape("the only hand of a table can't be left out")
    shape = tuple([table.shape[other] for other in others])
    rows = [[group_amount(table, others, (*context[:hand], dial, *context[hand:]), signs)
             for signs in outcomes(shape)] for context in contexts(shape)]
    return Table(shape, table.whole, rows)
