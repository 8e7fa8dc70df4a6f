"""One side with two dials: how often both dials of hand 0 can show the sign 1 together."""

from fardials.errors import OutOfStretch, WrongShape
from fardials.telling import check_quiet


def check_two_dials(table):
    """Raises WrongShape or TellsAcross unless the table is quiet and of the shape needed here."""
    shape = table.shape
    if len(shape) != 2 or shape[0] != (2, 2) or shape[1][1] != 2:
        raise WrongShape("hand 0 has two dials, and both hands have two signs")
    check_quiet(table)


def stretch(table, dial):
    """The low end and the high end of a dial of hand 1."""
    check_two_dials(table)
    return ends(table, dial)


def all_stretches(table):
    """Yields the stretches of all dials of hand 1 in order."""
    check_two_dials(table)
    for dial in range(table.shape[1][0]):
        yield ends(table, dial)


def ends(table, dial):
    """The stretch of a dial of a table that has been checked."""
    lows, highs = bounds(table, dial)
    return (sum(lows), sum(highs))


def bounds(table, dial):
    """For each sign of the dial, the least and the greatest amount of 1 at both other dials."""
    p, q, r = sign_amounts(table, dial)
    lows = [max(0, p[sign] + r[sign] - q[sign]) for sign in range(2)]
    highs = [min(p[sign], r[sign]) for sign in range(2)]
    return (lows, highs)


def sign_amounts(table, dial):
    """The pairs p, q and r of a dial: for each of its signs, three amounts.

    These are the amounts of the sign beside the sign 1 of dial 0, of the sign, and of the sign
    beside the sign 1 of dial 1.
    """
    first, second = table[(0, dial)], table[(1, dial)]
    q = (first[0] + first[2], first[1] + first[3])
    return (first[2:], q, second[2:])


def meeting(stretches):
    """The greatest first number and the least second number of the pairs."""
    return (max([low for low, high in stretches]), min([high for low, high in stretches]))


def gap(table):
    """How far the stretches of the table are from having an integer in common."""
    low, high = meeting(list(all_stretches(table)))
    return max(0, low - high)


def joint(table, dial, both):
    """The joint of a dial with this amount of 1 at both dials of hand 0, most of it at sign 0."""
    check_two_dials(table)
    lows, highs = bounds(table, dial)
    if not sum(lows) <= both <= sum(highs):
        raise OutOfStretch("the amount does not lie in the stretch of the dial")
    first = min(highs[0], both - lows[1])
    cells = [sign_cells(table, dial, 0, first), sign_cells(table, dial, 1, both - first)]
    return tuple(zip(*cells))


def sign_cells(table, dial, sign, met):
    """The amounts of the four cells beside a sign of the dial, with `met` in the last one."""
    p, q, r = sign_amounts(table, dial)
    return (q[sign] - p[sign] - r[sign] + met, r[sign] - met, p[sign] - met, met)
