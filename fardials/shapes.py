"""Shapes, and their contexts and outcomes in order."""

from fardials.errors import InvalidShape

MOST_HANDS = 3
MOST_DIALS = 4
LEAST_SIGNS = 2
MOST_SIGNS = 3
MOST_PLANS = 64


def check_shape(shape):
    """Raises InvalidShape if the shape breaks a rule or has more than 64 plans."""
    if not is_shape(shape):
        raise InvalidShape("a shape has one to three hands, with dials and signs in range, and at most 64 plans")


def is_shape(shape):
    """Whether the shape keeps all rules and has at most 64 plans."""
    if not isinstance(shape, tuple) or not 1 <= len(shape) <= MOST_HANDS:
        return False
    return all([is_hand(hand) for hand in shape]) and plan_count(shape) <= MOST_PLANS


def is_hand(hand):
    """Whether the hand is a pair (dials, signs) in range."""
    if not isinstance(hand, tuple) or len(hand) != 2:
        return False
    dials, signs = hand
    return 1 <= dials <= MOST_DIALS and LEAST_SIGNS <= signs <= MOST_SIGNS


def plan_count(shape):
    """The number of plans, also if it is greater than 64."""
    count = 1
    for dials, signs in shape:
        for _ in range(dials):
            count = count * signs
    return count


def contexts(shape):
    """The list of all contexts in order."""
    return tuples_below([dials for dials, signs in shape])


def outcomes(shape):
    """The list of all outcomes in order."""
    return tuples_below([signs for dials, signs in shape])


def context_index(shape, context):
    """The index of the context in the list of all contexts."""
    return index_below([dials for dials, signs in shape], context)


def outcome_index(shape, outcome):
    """The index of the outcome in the list of all outcomes."""
    return index_below([signs for dials, signs in shape], outcome)


def tuples_below(counts):
    """The list of all tuples whose item k is from 0 to counts[k] - 1, in ascending order."""
    found = [()]
    for count in counts:
        found = [(*begun, item) for begun in found for item in range(count)]
    return found


def index_below(counts, items):
    """The index of the tuple of these items in the list of `tuples_below`."""
    index = 0
    for count, item in zip(counts, items):
        index = index * count + item
    return index


def other_hands(shape, hand):
    """The tuple of all hands of the shape but this one, in order."""
    return tuple([other for other in range(len(shape)) if other != hand])
