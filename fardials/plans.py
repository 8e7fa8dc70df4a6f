"""Plans of a shape."""

from fardials.errors import InvalidPlan
from fardials.shapes import tuples_below


def plans(shape):
    """Yields all plans of the shape in order."""
    found = [()]
    for dials, signs in shape:
        rows = tuples_below([signs] * dials)
        found = [(*begun, row) for begun in found for row in rows]
    yield from found


def check_plan(shape, plan):
    """Raises InvalidPlan if the plan does not fit the shape."""
    if not is_plan(shape, plan):
        raise InvalidPlan("the plan does not fit the shape")


def is_plan(shape, plan):
    """Whether the plan has the rows and the signs of a plan of the shape."""
    if len(plan) != len(shape):
        return False
    return all([is_plan_row(hand, row) for hand, row in zip(shape, plan)])


def is_plan_row(hand, row):
    """Whether the row has one sign of the hand for each of its dials."""
    dials, signs = hand
    return len(row) == dials and all([0 <= sign < signs for sign in row])


def plan_outcome(plan, context):
    """The outcome that the plan shows at the context."""
    return tuple([row[dial] for row, dial in zip(plan, context)])
