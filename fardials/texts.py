"""Texts: tables and shares as lines of words, and charts of tables."""

from fardials.errors import InvalidText
from fardials.mixtures import Mixture
from fardials.plans import is_plan
from fardials.shapes import contexts, is_shape, outcomes
from fardials.shares import Share
from fardials.tables import Table

DIGITS = "0123456789"
MOST_DIGITS = 400
# The first line behind those of the shape and of the whole or the bottom.
FIRST_ROW = 3
NAME_WIDTH = 3
COLUMN_WIDTH = 6


def write_table(table):
    """The written form of the table."""
    return "\n".join([shape_line(table.shape), f"whole {written(table.whole)}", *row_lines(table.rows)])


def write_share(share):
    """The written form of the share."""
    mixture = share.mixture
    pairs = [" ".join([written(weight)] + [side_by_side(row) for row in plan])
             for plan, weight in mixture.pairs]
    return "\n".join([shape_line(mixture.shape), f"bottom {written(share.bottom)}",
                      *row_lines(share.costs), *pairs])


def shape_line(shape):
    """The line of a shape."""
    return " ".join(["hands"] + [f"{dials}x{signs}" for dials, signs in shape])


def row_lines(rows):
    """The list of the lines of rows of integers."""
    return [" ".join([written(number) for number in row]) for row in rows]


def written(number):
    """The integer as it is written in texts, however long it is."""
    # Python itself writes integers of some thousand digits only.
    left = abs(number)
    parts = []
    while left >= 10 ** 64:
        parts.append(str(left % 10 ** 64).zfill(64))
        left = left // 10 ** 64
    parts.append(str(left) if number >= 0 else f"-{left}")
    return "".join(parts[::-1])


def side_by_side(numbers):
    """Numbers of one digit each, without spaces."""
    return "".join([str(number) for number in numbers])


def read_table(text):
    """The table whose written form is the text."""
    lines = text.split("\n")
    shape = read_shape(lines)
    whole = read_second(lines, "whole")
    behind = FIRST_ROW + len(contexts(shape))
    rows = [read_amounts(lines, at, len(outcomes(shape)), whole) for at in range(FIRST_ROW, behind)]
    if len(lines) >= behind:
        raise InvalidText(behind)
    return Table(shape, whole, rows)


def read_share(text):
    """The share whose written form is the text."""
    lines = text.split("\n")
    shape = read_shape(lines)
    bottom = read_second(lines, "bottom")
    if bottom < 1:
        raise InvalidText(2)
    behind = FIRST_ROW + len(contexts(shape))
    costs = [read_costs(lines, at, len(outcomes(shape))) for at in range(FIRST_ROW, behind)]
    pairs = []
    for at in range(behind, len(lines) + 1):
        plan, weight = read_pair(lines, at, shape)
        if len(pairs) > 0 and plan <= pairs[-1][0]:
            raise InvalidText(at)
        pairs.append((plan, weight))
    return Share(Mixture(shape, pairs), bottom=bottom, costs=costs)


def words_at(lines, at):
    """The words of the line with this number. Raises InvalidText if it is missing."""
    if at > len(lines):
        raise InvalidText(at)
    return lines[at - 1].split(" ")


def read_shape(lines):
    """The shape that the first line writes."""
    first, *hands = words_at(lines, 1)
    parts = [word.split("x") for word in hands]
    if first != "hands" or not all([is_number(part) for pair in parts for part in pair]):
        raise InvalidText(1)
    shape = tuple([tuple([int(part) for part in pair]) for pair in parts])
    if not is_shape(shape):
        raise InvalidText(1)
    return shape


def read_second(lines, name):
    """The number behind a name, which are the second line."""
    words = words_at(lines, 2)
    if len(words) != 2 or words[0] != name or not is_number(words[1]):
        raise InvalidText(2)
    return int(words[1])


def read_amounts(lines, at, width, whole):
    """The amounts of a line, which sum to the whole."""
    words = words_at(lines, at)
    if len(words) != width or not all([is_number(word) for word in words]):
        raise InvalidText(at)
    amounts = [int(word) for word in words]
    if sum(amounts) != whole:
        raise InvalidText(at)
    return amounts


def read_costs(lines, at, width):
    """The costs of a line."""
    words = words_at(lines, at)
    if len(words) != width or not all([is_integer(word) for word in words]):
        raise InvalidText(at)
    return [int(word) for word in words]


def read_pair(lines, at, shape):
    """The plan of the shape and the weight of a line."""
    weight, *rows = words_at(lines, at)
    if not is_number(weight) or weight == "0" or not has_only_digits("".join(rows)):
        raise InvalidText(at)
    plan = tuple([tuple([int(sign) for sign in row]) for row in rows])
    if not is_plan(shape, plan):
        raise InvalidText(at)
    return (plan, int(weight))


def is_integer(word):
    """Whether the word writes an integer, which may be below 0."""
    if word.startswith("-"):
        return word != "-0" and is_number(word[1:])
    return is_number(word)


def is_number(word):
    """Whether the word writes an integer of at least 0."""
    return (1 <= len(word) <= MOST_DIGITS and has_only_digits(word)
            and (word == "0" or not word.startswith("0")))


def has_only_digits(word):
    """Whether each character of the word is one of the digits 0 to 9."""
    return all([sign in DIGITS for sign in word])


def chart(table):
    """The text with a line for the outcomes, and one with the amounts for each context."""
    lines = [chart_line("", [side_by_side(outcome) for outcome in outcomes(table.shape)])]
    for context, row in zip(contexts(table.shape), table.rows):
        lines.append(chart_line(side_by_side(context), [written(amount) for amount in row]))
    return "\n".join(lines)


def chart_line(name, columns):
    """A line of a chart."""
    filled = [column.rjust(COLUMN_WIDTH) for column in columns]
    return " ".join([name.ljust(NAME_WIDTH), *filled])
