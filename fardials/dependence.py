"""Dependencies of vectors."""

from fardials.clearing import cleared, unit


def dependency(vectors):
    """The dependency of the first vector that depends on those before it, or None."""
    kept = []
    for at, vector in enumerate(vectors):
        # What stands behind the vector keeps account of the vectors that are added up.
        row = cleared_by_all([*vector, *unit(len(vectors), at)], kept)
        lead = first_lead(row, len(vector))
        if lead is None:
            return tuple(row[len(vector):])
        kept.append((lead, with_lead_above_0(row, lead)))
    return None


def cleared_by_all(row, kept):
    """The row with 0 at the leads of all kept rows."""
    # A kept row has 0 at the leads of the rows before it, so in this order no lead comes back.
    for lead, other in kept:
        row = cleared(row, other, lead)
    return row


def first_lead(row, width):
    """The first index below the width at which the row is not 0, or None."""
    for at in range(width):
        if row[at] != 0:
            return at
    return None


def with_lead_above_0(row, lead):
    """The row, or its negative, with an integer above 0 at its lead."""
    return row if row[lead] > 0 else [-number for number in row]
