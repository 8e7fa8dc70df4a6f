"""Tables: how often each outcome occurs at each context."""

from fardials.errors import InvalidTable, NotBelow, WrongShape
from fardials.plans import check_plan, plan_outcome
from fardials.shapes import check_shape, context_index, contexts, outcome_index, outcomes


class Table:
    """A table with its shape, its whole and a tuple of rows, which are tuples of amounts."""

    def __init__(self, shape, whole, rows):
        check_shape(shape)
        kept = tuple([tuple(row) for row in rows])
        check_amounts(shape, whole, kept)
        self.shape = shape
        self.whole = whole
        self.rows = kept

    @classmethod
    def empty(cls, shape):
        """The table with whole 0."""
        # Before the rows are counted, because an invalid shape may have endlessly many.
        check_shape(shape)
        row = [0] * len(outcomes(shape))
        return cls(shape, 0, [row] * len(contexts(shape)))

    def amount(self, context, outcome):
        """The amount of one entry."""
        return self[context][outcome_index(self.shape, outcome)]

    def __getitem__(self, at):
        """The row of the context `at`."""
        return self.rows[context_index(self.shape, at)]

    def __iter__(self):
        return iter(self.rows)

    def __eq__(self, other):
        return (isinstance(other, Table) and self.shape == other.shape
                and self.whole == other.whole and self.rows == other.rows)

    def __add__(self, other):
        if not isinstance(other, Table):
            return NotImplemented
        check_same_shape(self, other)
        rows = [[mine + theirs for mine, theirs in zip(row, added)]
                for row, added in zip(self.rows, other.rows)]
        return Table(self.shape, self.whole + other.whole, rows)

    def __sub__(self, other):
        if not isinstance(other, Table):
            return NotImplemented
        if not lies_below(other, self):
            raise NotBelow("the second table does not lie below the first")
        rows = [[mine - theirs for mine, theirs in zip(row, taken)]
                for row, taken in zip(self.rows, other.rows)]
        return Table(self.shape, self.whole - other.whole, rows)

    def __mul__(self, other):
        if not isinstance(other, int):
            return NotImplemented
        rows = [[amount * other for amount in row] for row in self.rows]
        return Table(self.shape, self.whole * other, rows)

    def __rmul__(self, other):
        return self * other


def check_amounts(shape, whole, rows):
    """Raises InvalidTable with -1 or the index of the first wrong row."""
    if whole < 0 or len(rows) != len(contexts(shape)):
        raise InvalidTable(-1)
    width = len(outcomes(shape))
    for at, row in enumerate(rows):
        if len(row) != width or min(row) < 0 or sum(row) != whole:
            raise InvalidTable(at)


def check_same_shape(first, second):
    """Raises WrongShape if the shapes of two tables differ."""
    if first.shape != second.shape:
        raise WrongShape("the shapes of the two tables differ")


def lies_below(first, second):
    """Whether no amount of the first table is greater than that of the second one."""
    check_same_shape(first, second)
    return all([low <= high for row, above in zip(first.rows, second.rows)
                for low, high in zip(row, above)])


def plan_table(shape, plan):
    """The table of a plan, with whole 1."""
    check_plan(shape, plan)
    rows = []
    for context in contexts(shape):
        row = [0] * len(outcomes(shape))
        row[outcome_index(shape, plan_outcome(plan, context))] = 1
        rows.append(row)
    return Table(shape, 1, rows)
