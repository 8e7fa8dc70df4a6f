"""Games: the best plans for a rating, and the best half."""

from fardials.halves import Half, check_two_signs, live_pair
from fardials.plans import plans
from fardials.ratings import check_rating, rate_plan
from fardials.shapes import context_index, tuples_below


def plain_best(shape, rating):
    """The greatest rate of a plan, and the first plan with this rate."""
    first = best_plans(shape, rating)[0]
    return (rate_plan(shape, rating, first), first)


def best_plans(shape, rating):
    """The list of all plans with the greatest rate, in order."""
    check_rating(shape, rating)
    choices = list(plans(shape))
    rates = [rate_plan(shape, rating, plan) for plan in choices]
    score = max(rates)
    return [plan for plan, rate in zip(choices, rates) if rate == score]


def half_best(shape, rating):
    """The greatest rate of the table of a half, and the first half with this rate."""
    check_two_signs(shape)
    check_rating(shape, rating)
    score, states = best_states(shape, rating)
    kinds = [[best_kind(numbers_at(shape, rating, x, y)) if live_pair(states, x, y) else 0
              for y in range(len(states[1]))] for x in range(len(states[0]))]
    return (score, Half(shape, states, kinds))


def best_states(shape, rating):
    """The greatest rate of the table of a half, and the first states with this rate."""
    found = None
    for left in tuples_below([Half.LIVE + 1] * shape[0][0]):
        # Each dial of hand 1 is chosen on its own, because no part of a rate has two of them.
        choices = [best_facing(shape, rating, left, y) for y in range(shape[1][0])]
        score = sum([rate for rate, state in choices])
        if found is None or score > found[0]:
            found = (score, (left, tuple([state for rate, state in choices])))
    return found


def best_facing(shape, rating, left, y):
    """The greatest rate of dial y of hand 1 with these states of hand 0, and its first state."""
    rates = [sum([part_rate(numbers_at(shape, rating, x, y), state, facing)
                  for x, state in enumerate(left)]) for facing in range(Half.LIVE + 1)]
    most = max(rates)
    return (most, rates.index(most))


def numbers_at(shape, rating, x, y):
    """The numbers of the rating at a pair of dials."""
    return rating[context_index(shape, (x, y))]


def part_rate(numbers, state, facing):
    """What the table of a half rates at a pair of dials with these states."""
    if state == Half.LIVE and facing == Half.LIVE:
        return max(alike_and_unlike(numbers))
    times = 1 if Half.LIVE in (state, facing) else 2
    return times * sum([numbers[2 * sign + other]
                        for sign in shown_signs(state) for other in shown_signs(facing)])


def shown_signs(state):
    """The signs that a dial with this state shows."""
    return (0, 1) if state == Half.LIVE else (state,)


def alike_and_unlike(numbers):
    """The sum of the numbers of equal signs, and that of different signs."""
    return (numbers[0] + numbers[3], numbers[1] + numbers[2])


def best_kind(numbers):
    """The kind of a pair of live dials: unlike only if this is better than alike."""
    alike, unlike = alike_and_unlike(numbers)
    return 1 if unlike > alike else 0
