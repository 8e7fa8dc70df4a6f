"""Parity: plans whose outcomes have the parities that are asked, and parity tables."""

from fardials.bits import cleared_of, first_one
from fardials.clearing import unit
from fardials.errors import InvalidAsked, WrongShape
from fardials.shapes import contexts, outcomes
from fardials.tables import Table


def parity_answer(shape, asked):
    """("plan", a plan that keeps all pairs) or ("odd", an odd set of their indexes)."""
    check_all_signs(shape)
    check_asked(shape, asked)
    many = sum([dials for dials, signs in shape])
    kept = []
    for at, (context, want) in enumerate(asked):
        # What stands behind the want keeps account of the pairs that are added up.
        row = cleared_of([*dial_bits(shape, context), want, *unit(len(asked), at)], kept)
        lead = first_one(row[:many])
        if lead is not None:
            kept.append((lead, row))
        elif row[many] == 1:
            return ("odd", tuple([index for index, bit in enumerate(row[many + 1:]) if bit == 1]))
    return ("plan", plan_rows(shape, wanted_signs(kept, many)))


def check_all_signs(shape):
    """Raises WrongShape unless each hand has two signs."""
    if not all([signs == 2 for dials, signs in shape]):
        raise WrongShape("each hand has two signs")


def check_asked(shape, asked):
    """Raises InvalidAsked with the index of the first wrong pair."""
    known = contexts(shape)
    for at, (context, want) in enumerate(asked):
        if context not in known or want not in (0, 1):
            raise InvalidAsked(at)


def dial_bits(shape, context):
    """One bit for each dial of each hand, 1 for the dials of the context."""
    return [bit for (dials, signs), dial in zip(shape, context) for bit in unit(dials, dial)]


def wanted_signs(kept, many):
    """One sign for each dial, such that the signs at the dials of each kept row sum to its want."""
    signs = [0] * many
    for lead, row in kept[::-1]:
        # The sign at the lead is still 0, and no later kept row has the lead.
        total = sum([bit * sign for bit, sign in zip(row, signs)])
        signs[lead] = (total + row[many]) % 2
    return signs


def plan_rows(shape, signs):
    """The plan with these signs, one for each dial of each hand in order."""
    rows = []
    start = 0
    for dials, _ in shape:
        rows.append(tuple(signs[start:start + dials]))
        start = start + dials
    return tuple(rows)


def parity_table(shape, kinds):
    """The table with 1 at each outcome that has the parity of the kind of its context."""
    check_all_signs(shape)
    check_kinds_asked(shape, kinds)
    shown = outcomes(shape)
    rows = [[1 if sum(outcome) % 2 == kind else 0 for outcome in shown] for kind in kinds]
    return Table(shape, len(shown) // 2, rows)


def check_kinds_asked(shape, kinds):
    """Raises InvalidAsked with -1 or the index of the first wrong kind."""
    if len(kinds) != len(contexts(shape)):
        raise InvalidAsked(-1)
    for at, kind in enumerate(kinds):
        if kind not in (0, 1):
            raise InvalidAsked(at)
