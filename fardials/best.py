"""Best solutions of straight systems, and prices that show that none is better."""

from math import lcm

from fardials.clearing import reduced
from fardials.errors import Endless
from fardials.systems import System, check_system


class Finding:
    """A solution and prices, both to be divided by the bottom, and the worth of both."""

    def __init__(self, solution, prices, bottom, worth):
        self.solution = tuple(solution)
        self.prices = tuple(prices)
        self.bottom = bottom
        self.worth = worth


def best(rows, *, limits, gains):
    """The finding in lowest terms that shows the greatest gain. Raises Endless without one."""
    system = System(rows, limits=limits, gains=gains)
    variable = most_wanted(system)
    while variable is not None:
        index = system.leaving(variable)
        if index is None:
            raise Endless(endless_ray(system, variable, len(gains)))
        system.turn(index, variable)
        variable = most_wanted(system)
    return last_finding(system, gains)


def most_wanted(system):
    """The first variable with the greatest integer in the goal, or None if none is above 0."""
    # Turns at it end as steps do, since `leaving` alone keeps them from coming back to the same
    # heads. In large systems with long integers they are far fewer than at the least variable.
    numbers = system.goal[:-1]
    most = max(numbers, default=0)
    return numbers.index(most) if most > 0 else None


def last_finding(system, gains):
    """The finding of a system whose goal has no integer above 0 at a variable."""
    many = len(gains)
    values = head_fractions(system, many, -1)
    prices = [(-number, system.scale) for number in system.goal[many:-1]]
    bottom, *numbers = over_one_bottom(values + prices)
    solution = numbers[:many]
    return Finding(solution, numbers[many:], bottom, weighted_sum(gains, solution))


def endless_ray(system, variable, many):
    """The ray of a system in which no equation stops the variable."""
    # An equation takes from its head what its integer at the variable adds.
    falls = head_fractions(system, many, variable)
    if variable < many:
        falls[variable] = (-1, 1)
    return tuple(reduced([-number for number in over_one_bottom(falls)[1:]]))


def head_fractions(system, many, at):
    """For each of the first variables, the integer of its equation at an index, over its own.

    Variables that are no heads have 0.
    """
    found = [(0, 1)] * many
    for head, equation in zip(system.heads, system.equations):
        if head < many:
            found[head] = (equation[at], equation[head])
    return found


def over_one_bottom(fractions):
    """A bottom, and the integers that stand for the fractions over it, in lowest terms."""
    bottom = 1
    for _, divisor in fractions:
        bottom = lcm(bottom, divisor)
    return reduced([bottom] + [number * (bottom // divisor) for number, divisor in fractions])


def weighted_sum(weights, numbers):
    """The sum of the numbers, each multiplied by its weight."""
    return sum([weight * number for weight, number in zip(weights, numbers)])


def is_best(rows, finding, *, limits, gains):
    """Whether the finding shows the greatest gain of this straight system."""
    check_system(rows, limits, gains)
    return (has_form(finding, len(gains), len(rows))
            and keeps_rows(rows, finding, limits)
            and pays_gains(rows, finding, gains)
            and weighted_sum(gains, finding.solution) == finding.worth
            and weighted_sum(limits, finding.prices) == finding.worth)


def has_form(finding, many, slacks):
    """Whether the finding has the right number of integers, in range."""
    return (len(finding.solution) == many and len(finding.prices) == slacks
            and all([number >= 0 for number in [*finding.solution, *finding.prices]])
            and finding.bottom >= 1)


def keeps_rows(rows, finding, limits):
    """Whether the solution keeps the limit of each row."""
    return all([weighted_sum(row, finding.solution) <= limit * finding.bottom
                for row, limit in zip(rows, limits)])


def pays_gains(rows, finding, gains):
    """Whether the prices pay at least each gain."""
    return all([weighted_sum([row[at] for row in rows], finding.prices) >= gain * finding.bottom
                for at, gain in enumerate(gains)])
