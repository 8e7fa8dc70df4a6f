"""Straight systems: equations, a goal, and turns that change the heads of equations."""

from fardials.clearing import cleared, unit
from fardials.errors import InvalidSystem


class System:
    """A straight system with its equations, their heads, its goal and the scale of the goal."""

    def __init__(self, rows, *, limits, gains):
        check_system(rows, limits, gains)
        many = len(rows)
        self.equations = [[*row, *unit(many, at), limits[at]] for at, row in enumerate(rows)]
        self.heads = [len(gains) + at for at in range(many)]
        self.goal = list(gains) + [0] * (many + 1)
        self.scale = 1

    def entering(self):
        """The least variable whose integer in the goal is above 0, or None."""
        for variable, number in enumerate(self.goal[:-1]):
            if number > 0:
                return variable
        return None

    def leaving(self, variable):
        """The index of the equation with the least ranking at the variable, or None."""
        least = None
        for at, equation in enumerate(self.equations):
            if equation[variable] > 0 and (least is None or self._ranks_before(at, least, variable)):
                least = at
        return least

    def _ranks_before(self, first, second, variable):
        """Whether the ranking of the first equation is less than that of the second one."""
        mine, theirs = self.equations[first], self.equations[second]
        for low, high in zip(self._ranked(mine), self._ranked(theirs)):
            # Fractions with divisors above 0 compare as these products do.
            left, right = low * theirs[variable], high * mine[variable]
            if left != right:
                return left < right
        return False

    def _ranked(self, equation):
        """The right side of an equation and then its integers at the slacks."""
        first_slack = len(equation) - 1 - len(self.equations)
        return [equation[-1], *equation[first_slack:-1]]

    def turn(self, index, variable):
        """Makes the variable the head of an equation, and clears it everywhere else."""
        turned = self.equations[index]
        if turned[variable] <= 0:
            raise InvalidSystem("an equation is turned at an integer above 0")
        self.equations = [equation if at == index else cleared(equation, turned, variable)
                          for at, equation in enumerate(self.equations)]
        # The scale is multiplied and divided like an integer of the goal.
        *goal, scale = cleared([*self.goal, self.scale], [*turned, 0], variable)
        self.goal = goal
        self.scale = scale
        self.heads = [variable if at == index else head for at, head in enumerate(self.heads)]


def check_system(rows, limits, gains):
    """Raises InvalidSystem if these are not the rows, limits and gains of a straight system."""
    if len(limits) != len(rows):
        raise InvalidSystem("there is one limit for each row")
    if not all([len(row) == len(gains) for row in rows]):
        raise InvalidSystem("a row has one integer for each gain")
    if not all([limit >= 0 for limit in limits]):
        raise InvalidSystem("a limit is not below 0")
