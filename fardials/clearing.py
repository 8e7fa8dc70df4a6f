"""Rows of integers: common divisors, and clearing one row by another one."""

from math import gcd


def common_divisor(numbers):
    """The greatest common divisor of a list of integers, 0 if all of them are 0."""
    found = 0
    for number in numbers:
        # Nothing divides it further, and a divisor of long integers takes long.
        if found == 1:
            return found
        found = gcd(found, number)
    return found


def reduced(numbers):
    """The list of these integers, not all 0, divided by their greatest common divisor."""
    divisor = common_divisor(numbers)
    return [number // divisor for number in numbers]


def cleared(row, other, at):
    """The row with 0 at an index: a multiple of it less a multiple of the other row, reduced.

    The other row has an integer above 0 there, by which the row is multiplied.
    """
    times, taken = other[at], row[at]
    if taken == 0:
        return reduced(row)
    return reduced([times * mine - taken * theirs for mine, theirs in zip(row, other)])


def unit(many, at):
    """The list of this many integers with 1 at one index and 0 elsewhere."""
    return [1 if index == at else 0 for index in range(many)]
