"""Wires: tables and mixtures that two hands make of the boxes that they hold."""

from fardials.errors import WrongShape
from fardials.mixtures import Mixture
from fardials.shapes import contexts
from fardials.short import place_amount
from fardials.tables import Table
from fardials.telling import check_quiet
from fardials.trees import check_trees, leaves


def wired(boxes, *, shape, left, right):
    """The table that the hands make of boxes, which are quiet tables, by following their trees."""
    check_two_hands(shape, boxes)
    for box in boxes:
        check_quiet(box)
    check_trees(left, 0, boxes, shape)
    check_trees(right, 1, boxes, shape)
    amounts = [ask_amounts(box) for box in boxes]
    left_leaves = [leaf_asks(tree, len(boxes)) for tree in left]
    right_leaves = [leaf_asks(tree, len(boxes)) for tree in right]
    rows = [told_row(shape, amounts, left_leaves[x], right_leaves[y]) for x, y in contexts(shape)]
    return Table(shape, whole_product(boxes), rows)


def check_two_hands(shape, boxes):
    """Raises WrongShape unless the shape and all boxes have two hands."""
    if not all([len(hands) == 2 for hands in [shape, *[box.shape for box in boxes]]]):
        raise WrongShape("a wiring and each of its boxes have two hands")


def whole_product(boxes):
    """The product of the wholes of the boxes."""
    found = 1
    for box in boxes:
        found = found * box.whole
    return found


def ask_amounts(box):
    """The amount of the box for each ask (dial, read), or None, of the left and the right hand."""
    left, right = [possible_asks(dials, signs) for dials, signs in box.shape]
    return {(mine, theirs): place_amount(box, (mine, theirs)) for mine in left for theirs in right}


def possible_asks(dials, signs):
    """None, and all asks (dial, read) of a hand."""
    return [None] + [(dial, read) for dial in range(dials) for read in range(signs)]


def leaf_asks(tree, many):
    """For each leaf, a list with the ask (dial, read), or None, of each box, and the told sign."""
    found = []
    for asked, sign in leaves(tree):
        asks = [None] * many
        for box, dial, read in asked:
            asks[box] = (dial, read)
        found.append((asks, sign))
    return found


def told_row(shape, amounts, left, right):
    """The amounts of all outcomes in order, for the leaves of the trees of both hands."""
    totals = [[0] * shape[1][1] for _ in range(shape[0][1])]
    for mine, sign in left:
        for theirs, other in right:
            totals[sign][other] = totals[sign][other] + amount_product(amounts, mine, theirs)
    return [total for row in totals for total in row]


def amount_product(amounts, mine, theirs):
    """The product of the amounts of all boxes for the asks of two leaves."""
    found = 1
    for known, ask, facing in zip(amounts, mine, theirs):
        found = found * known[(ask, facing)]
    return found


def wired_mixture(mixtures, *, shape, left, right):
    """The mixture that the hands make of mixtures by following their trees."""
    check_two_hands(shape, mixtures)
    check_trees(left, 0, mixtures, shape)
    check_trees(right, 1, mixtures, shape)
    pairs = [(told_plan(left, right, taken), weight) for taken, weight in all_choices(mixtures)]
    return Mixture.gathered(shape, pairs)


def all_choices(mixtures):
    """All choices of one plan from each mixture, with the product of their weights."""
    found = [((), 1)]
    for mixture in mixtures:
        found = [((*taken, plan), product * weight)
                 for taken, product in found for plan, weight in mixture.pairs]
    return found


def told_plan(left, right, taken):
    """The plan that the trees of both hands tell if these plans are taken from the boxes."""
    return (tuple([told_sign(tree, 0, taken) for tree in left]),
            tuple([told_sign(tree, 1, taken) for tree in right]))


def told_sign(tree, hand, taken):
    """The sign that the tree of the hand tells if these plans are taken from the boxes."""
    while tree[0] == "ask":
        _, box, dial, branches = tree
        tree = branches[taken[box][hand][dial]]
    return tree[1]
