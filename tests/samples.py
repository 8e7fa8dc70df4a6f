"""Shapes, tables and ratings that several tests use."""

from itertools import product
from random import Random

from fardials.plans import plans
from fardials.tables import Table

# The greatest integer of 30 digits.
GREAT = 10 ** 30 - 1

ONE_HAND = ((2, 3),)
SQUARE = ((2, 2), (2, 2))
THREE_HANDS = ((1, 3), (2, 2), (1, 2))
# The shapes in which hand 0 has two dials, and both hands have two signs.
TWO_DIALS = [((2, 2), (dials, 2)) for dials in (1, 2, 3, 4)]
# Three shapes of exactly 64 plans.
FULL_SHAPES = [((2, 2), (2, 2), (2, 2)), ((4, 2), (2, 2)), ((2, 2), (4, 2))]

SHAPES = [
    ((1, 2),), ((4, 2),), ONE_HAND, ((3, 3),),
    SQUARE, ((1, 2), (2, 2)), ((1, 3), (2, 2)), ((2, 2), (1, 3)), ((2, 3), (2, 2)), ((1, 2), (3, 3)),
    THREE_HANDS, ((1, 2), (2, 2), (1, 3)), ((1, 3), (1, 3), (2, 2)), ((2, 3), (1, 2), (1, 3)),
    *FULL_SHAPES,
]

# Whole 2, quiet, and not the table of a mixture.
BOX = Table(SQUARE, 2, [[1, 0, 0, 1], [1, 0, 0, 1], [1, 0, 0, 1], [0, 1, 1, 0]])


def counted_plans(shape):
    count = 1
    for dials, signs in shape:
        count *= signs ** dials
    return count


def all_shapes():
    """All shapes that keep the rules, also those with too many plans."""
    hands = list(product(range(1, 5), (2, 3)))
    return [shape for many in (1, 2, 3) for shape in product(hands, repeat=many)]


def valid_shapes():
    return [shape for shape in all_shapes() if counted_plans(shape) <= 64]


def context_list(shape):
    return list(product(*[range(dials) for dials, signs in shape]))


def outcome_list(shape):
    return list(product(*[range(signs) for dials, signs in shape]))


def any_table(shape, seed, whole=50):
    """A table of this whole, hardly ever a quiet one."""
    chance = Random(seed)
    rows = []
    for _ in context_list(shape):
        row = [0] * len(outcome_list(shape))
        for _ in range(7):
            row[chance.randrange(len(row))] += whole // 7
        row[chance.randrange(len(row))] += whole % 7
        rows.append(row)
    return Table(shape, whole, rows)


def weighted_plans(shape, seed):
    """Some plans of the shape with weights, in order."""
    chance = Random(seed)
    return [(plan, chance.randrange(1, 9)) for plan in plans(shape) if chance.random() < 0.4]


def summed_table(shape, pairs):
    """The table of plans with weights, counted one by one."""
    amounts = {}
    for plan, weight in pairs:
        for context in context_list(shape):
            entry = context, tuple(plan[hand][dial] for hand, dial in enumerate(context))
            amounts[entry] = amounts.get(entry, 0) + weight
    rows = [[amounts.get((context, outcome), 0) for outcome in outcome_list(shape)]
            for context in context_list(shape)]
    return Table(shape, sum(weight for plan, weight in pairs), rows)


def quiet_table(shape, seed):
    """A quiet table; of two hands with two dials and two signs, one that is no mixture's."""
    table = summed_table(shape, weighted_plans(shape, seed))
    return table + BOX * 3 if shape == SQUARE else table


def any_rating(shape, seed):
    """A rating with numbers above and below 0."""
    chance = Random(seed)
    return [[chance.randrange(-9, 10) for _ in outcome_list(shape)] for _ in context_list(shape)]


def full_table(shape, seed, whole=1000):
    """A table with few amounts of 0, hardly ever a quiet one."""
    chance = Random(seed)
    rows = []
    for _ in context_list(shape):
        cuts = sorted(chance.randrange(whole + 1) for _ in outcome_list(shape)[1:])
        rows.append([end - start for start, end in zip([0, *cuts], [*cuts, whole])])
    return Table(shape, whole, rows)


def two_sign_table(shape, seed, whole=24):
    """A quiet table of two hands with two signs each, often far from the table of a mixture."""
    chance = Random(seed)
    near = chance.random() < 0.5
    ones = [[whole // 2 + chance.randrange(-2, 3) if near and whole > 4 else chance.randrange(whole + 1)
             for _ in range(dials)] for dials, signs in shape]
    rows = []
    for x, y in context_list(shape):
        first, second = ones[0][x], ones[1][y]
        low, high = max(0, first + second - whole), min(first, second)
        both = chance.choice((low, high, chance.randrange(low, high + 1)))
        rows.append([whole - first - second + both, second - both, first - both, both])
    return Table(shape, whole, rows)


def raised(call, *items, **more):
    """The error that a call raises, or None."""
    try:
        call(*items, **more)
    except Exception as error:
        return error
    return None


def great_rating(shape, seed):
    """A rating with numbers of up to 30 digits above and below 0."""
    chance = Random(seed)
    return [[chance.randrange(-GREAT, GREAT + 1) for _ in outcome_list(shape)]
            for _ in context_list(shape)]


def misfits(shape):
    """Ratings that do not fit the shape, each with the row that the error tells."""
    fits = any_rating(shape, 3)
    found = [([], -1), (fits[:-1], -1), ([*fits, fits[0]], -1), ([row[:-1] for row in [*fits, fits[0]]], -1)]
    for at in range(len(fits)):
        for wrong in ([], fits[at][:-1], [*fits[at], 0]):
            found.append(([*fits[:at], wrong, *fits[at + 1:]], at))
            # A later row is wrong, too.
            found.append(([*fits[:at], wrong, *[[]] * (len(fits) - at - 1)], at))
    return found


def any_tree(chance, sides, signs, left):
    """A tree of a hand with these dials and signs of each box, of which it may ask those left."""
    if not left or chance.random() < 0.15:
        return ("tell", chance.randrange(signs))
    box = chance.choice(left)
    dials, reads = sides[box]
    rest = [other for other in left if other != box]
    return ("ask", box, chance.randrange(dials),
            tuple(any_tree(chance, sides, signs, rest) for _ in range(reads)))


def any_trees(boxes, hand, shape, seed):
    """Trees that fit a hand of the shape; boxes are asked in an order that depends on the signs."""
    chance = Random(f"{seed} {hand} {shape}")
    sides = [box.shape[hand] for box in boxes]
    dials, signs = shape[hand]
    return [any_tree(chance, sides, signs, list(range(len(boxes)))) for _ in range(dials)]
