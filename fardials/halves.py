"""Halves: tables of whole 2 in which each dial is fixed to a sign or shows both alike."""

from fardials.errors import InvalidHalf, WrongShape
from fardials.plans import check_plan, plan_outcome
from fardials.shapes import check_shape, contexts, outcomes, tuples_below
from fardials.tables import Table
from fardials.telling import check_quiet, single


class Half:
    """A half with its shape, the rows of the states of its dials and the rows of its kinds."""

    LIVE = 2

    def __init__(self, shape, states, kinds):
        check_shape(shape)
        check_two_signs(shape)
        kept_states = tuple([tuple(row) for row in states])
        kept_kinds = tuple([tuple(row) for row in kinds])
        check_states(shape, kept_states)
        check_kinds(kept_states, kept_kinds)
        self.shape = shape
        self.states = kept_states
        self.kinds = kept_kinds

    @classmethod
    def fixed(cls, shape, plan):
        """The half in which each dial is fixed to the sign of the plan."""
        check_shape(shape)
        check_two_signs(shape)
        check_plan(shape, plan)
        return cls(shape, plan, [[0] * shape[1][0]] * shape[0][0])

    @property
    def live(self):
        """The live dials of hand 0 and of hand 1."""
        return tuple([tuple([dial for dial, state in enumerate(row) if state == Half.LIVE])
                      for row in self.states])

    def __eq__(self, other):
        return (isinstance(other, Half) and self.shape == other.shape
                and self.states == other.states and self.kinds == other.kinds)

    def __contains__(self, x):
        """Whether the plan x shows an outcome of the half at each context."""
        return all([half_amount(self, context, plan_outcome(x, context)) > 0
                    for context in contexts(self.shape)])

    def __xor__(self, other):
        """The half in which the signs are exchanged at each dial at which a plan shows 1."""
        states = [[state if state == Half.LIVE else state ^ sign
                   for state, sign in zip(row, signs)] for row, signs in zip(self.states, other)]
        left, right = other
        kinds = [[kind ^ sign ^ facing if live_pair(self.states, x, y) else 0
                  for y, (kind, facing) in enumerate(zip(row, right))]
                 for x, (row, sign) in enumerate(zip(self.kinds, left))]
        return Half(self.shape, states, kinds)


def check_two_signs(shape):
    """Raises WrongShape unless the shape has two hands with two signs each."""
    if [signs for dials, signs in shape] != [2, 2]:
        raise WrongShape("there are two hands with two signs each")


def check_states(shape, states):
    """Raises InvalidHalf unless there is one state for each dial of each hand."""
    if [len(row) for row in states] != [dials for dials, signs in shape]:
        raise InvalidHalf("there is one state for each dial of each hand")
    if not all([state in (0, 1, Half.LIVE) for row in states for state in row]):
        raise InvalidHalf("a state is 0, 1 or 2")


def check_kinds(states, kinds):
    """Raises InvalidHalf unless there is one kind for each pair of dials, 0 at fixed ones."""
    left, right = states
    if [len(row) for row in kinds] != [len(right)] * len(left):
        raise InvalidHalf("there is one kind for each pair of dials")
    if not all([kind in (0, 1) for row in kinds for kind in row]):
        raise InvalidHalf("a kind is 0 or 1")
    if not all([kind == 0 or live_pair(states, x, y)
                for x, row in enumerate(kinds) for y, kind in enumerate(row)]):
        raise InvalidHalf("the kind of a fixed dial is 0")


def live_pair(states, x, y):
    """Whether dial x of hand 0 and dial y of hand 1 are both live."""
    return states[0][x] == Half.LIVE and states[1][y] == Half.LIVE


def all_halves(shape):
    """Yields all halves of the shape in order."""
    left, right = [dials for dials, signs in shape]
    for drawn in tuples_below([3] * (left + right)):
        states = (drawn[:left], drawn[left:])
        counts = [2 if live_pair(states, x, y) else 1 for x in range(left) for y in range(right)]
        for kinds in tuples_below(counts):
            yield Half(shape, states, [kinds[x * right:(x + 1) * right] for x in range(left)])


def half_amount(half, context, outcome):
    """The amount of one entry of the table of the half."""
    x, y = context
    states = (half.states[0][x], half.states[1][y])
    if not all([state in (sign, Half.LIVE) for state, sign in zip(states, outcome)]):
        return 0
    if states == (Half.LIVE, Half.LIVE):
        return 1 if sum(outcome) % 2 == half.kinds[x][y] else 0
    return 1 if Half.LIVE in states else 2


def half_table(half):
    """The table of the half, with the whole 2."""
    shape = half.shape
    return Table(shape, 2, [[half_amount(half, context, outcome) for outcome in outcomes(shape)]
                            for context in contexts(shape)])


def check_two_quiet(table):
    """Raises WrongShape or TellsAcross unless the table has draws of halves."""
    check_two_signs(table.shape)
    check_quiet(table)


def half_draw(table, number):
    """The half of the draw with this number."""
    check_two_quiet(table)
    if not 0 <= number < table.whole:
        raise InvalidHalf("there is no draw with this number")
    return drawn_half(table, number)


def drawn_half(table, number):
    """The half of a draw of a table that has been checked."""
    states = [[drawn_state(amount, table.whole, number) for amount in row]
              for row in dial_ones(table)]
    kinds = [[1 if live_pair(states, x, y) and number >= switch else 0
              for y, switch in enumerate(row)] for x, row in enumerate(pair_switches(table))]
    return Half(table.shape, states, kinds)


def drawn_state(amount, whole, number):
    """The state, in the draw with this number, of a dial with these ones."""
    if 2 * amount <= number:
        return 0
    return 1 if 2 * (whole - amount) <= number else Half.LIVE


def dial_ones(table):
    """For each hand, the ones of its dials."""
    return [[single(table, hand, dial)[1] for dial in range(dials)]
            for hand, (dials, signs) in enumerate(table.shape)]


def pair_switches(table):
    """For each dial of hand 0, its switches with the dials of hand 1."""
    left, right = dial_ones(table)
    return [[2 * (table.amount((x, y), (1, 1)) - max(0, ones + facing - table.whole))
             for y, facing in enumerate(right)] for x, ones in enumerate(left)]


def halves(table):
    """The draws of halves in order, as pairs (half, count), with equal neighbours joined."""
    check_two_quiet(table)
    starts = run_starts(table)
    return [(drawn_half(table, start), end - start)
            for start, end in zip(starts, [*starts[1:], table.whole])]


def run_starts(table):
    """The numbers of the draws, in order, that differ from the draw before them."""
    # At each of these numbers below the whole, a live dial becomes fixed, or a pair of live dials
    # unlike: a switch is at most the number at which the first of its dials becomes fixed.
    turns = [start for row in dial_ones(table) for ones in row
             for start in (2 * ones, 2 * (table.whole - ones))]
    switches = [switch for row in pair_switches(table) for switch in row]
    return sorted(set([start for start in [0] + turns + switches if start < table.whole]))
