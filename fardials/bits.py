"""Bits: independent rows, products and squares of matrices of bits."""

from fardials.clearing import unit
from fardials.errors import InvalidBits

MOST_BITS = 6


def check_matrix(matrix):
    """Raises InvalidBits with -1 or the index of the first wrong row."""
    if not 1 <= len(matrix) <= MOST_BITS:
        raise InvalidBits(-1)
    for at, row in enumerate(matrix):
        if not 1 <= len(row) <= MOST_BITS or len(row) != len(matrix[0]):
            raise InvalidBits(at)
        if not all([bit in (0, 1) for bit in row]):
            raise InvalidBits(at)


def independent_rows(matrix):
    """The tuple of the indexes of the independent rows, in order."""
    check_matrix(matrix)
    # An independent row is its own choice. The choice of another row has earlier rows alone.
    return tuple([at for at, choice in enumerate(row_choices(matrix)) if choice[at] == 1])


def row_choices(matrix):
    """For each row, a bit for each row: 1 for the independent rows whose sum it is."""
    kept = []
    choices = []
    for at, row in enumerate(matrix):
        own = unit(len(matrix), at)
        # What stands behind the bits keeps account of the rows that are added up.
        total = cleared_of([*row, *own], kept)
        lead = first_one(total[:len(row)])
        if lead is None:
            choices.append(added(total[len(row):], own))
        else:
            choices.append(own)
            kept.append((lead, total))
    return choices


def cleared_of(row, kept):
    """The row of bits after each kept row, in order, was added at whose lead it has a 1."""
    # A kept row has 0 at the leads of the rows before it, so in this order no lead comes back.
    for lead, other in kept:
        if row[lead] == 1:
            row = added(row, other)
    return row


def added(first, second):
    """The sum by two of two rows of bits."""
    return [bit ^ other for bit, other in zip(first, second)]


def first_one(row):
    """The index of the first 1 of a row of bits, or None."""
    return row.index(1) if 1 in row else None


def products(matrix):
    """The list of products (u, v) that makes the matrix, one for each independent row."""
    kept = independent_rows(matrix)
    choices = row_choices(matrix)
    return [(tuple([choice[at] for choice in choices]), tuple(matrix[at])) for at in kept]


def squares(matrix):
    """The matrix with, at each bit, the sum by two of the corners of its square with the first bit."""
    check_matrix(matrix)
    above = matrix[0]
    return tuple([tuple([bit ^ row[0] ^ over ^ above[0] for bit, over in zip(row, above)])
                  for row in matrix])
