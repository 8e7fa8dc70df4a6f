"""Promises 20 and 159 to 165: written tables and shares, and charts."""

import unittest
from random import Random

from fardials.errors import InvalidText
from fardials.mixtures import Mixture
from fardials.plainshare import plain_share
from fardials.shares import Share
from fardials.tables import Table
from fardials.texts import chart, read_share, read_table, write_share, write_table
from tests.samples import (BOX, GREAT, SHAPES, SQUARE, THREE_HANDS, all_shapes, any_rating, any_table, context_list,
                           counted_plans, full_table, outcome_list, quiet_table, raised, valid_shapes, weighted_plans)

TABLE = Table(((1, 2), (2, 2)), 12, [[1, 0, 10, 1], [0, 1, 11, 0]])
TEXT = "hands 1x2 2x2\nwhole 12\n1 0 10 1\n0 1 11 0"
SHARE = Share(Mixture(((1, 3), (2, 2)), [(((0,), (0, 1)), 4), (((2,), (1, 0)), 15)]), bottom=3,
              costs=[[0, 1, 2, 30, 0, 5], [7, 0, -1, 0, -20, 0]])
PAPER = "hands 1x3 2x2\nbottom 3\n0 1 2 30 0 5\n7 0 -1 0 -20 0\n4 0 01\n15 2 10"

# Words that write no number. Each has a character that is no digit, or a digit too much, or none.
NO_NUMBERS = ["", "-1", "+1", "-0", "00", "01", "0012", "1.0", "1e3", "0x1", "1_0", "one", "1,0", "\t1", "1\t", "1\r",
              "\u0661", "\u00b2", "1\u0662", "\uff11", "\u2460", "1\u00a0", "\u20031", "1" + "0" * 400, "9" * 401,
              "0" * 400, "0" * 401, "--1", "1-", "-", "\x0b1", "1\x0c", "1\x1c", "1\x85", "1\u2028", "'1'", "1;"]
LONGEST = "9" * 400


def big(number):
    """The digits of an integer that may be too long for Python's own conversion."""
    found = []
    while number >= 10 ** 9:
        number, rest = divmod(number, 10 ** 9)
        found.append(f"{rest:09d}")
    return str(number) + "".join(reversed(found))


def any_share(shape, seed):
    chance = Random(seed)
    return Share(Mixture(shape, weighted_plans(shape, seed)), bottom=chance.randrange(1, 50),
                 costs=any_rating(shape, seed))


def parts(share):
    mixture = share.mixture
    return mixture.shape, mixture.pairs, share.bottom, share.costs


def told_table(table):
    """The written form of a table, told line by line."""
    text = "hands"
    for dials, signs in table.shape:
        text += f" {dials}x{signs}"
    text += f"\nwhole {table.whole}"
    for row in table.rows:
        text += "\n" + " ".join(map(str, row))
    return text


def told_share(share):
    text = "hands" + "".join(f" {dials}x{signs}" for dials, signs in share.mixture.shape)
    text += f"\nbottom {share.bottom}"
    for row in share.costs:
        text += "\n" + " ".join(map(str, row))
    for plan, weight in share.mixture.pairs:
        text += f"\n{weight}"
        for row in plan:
            text += " " + "".join(map(str, row))
    return text


class Texts(unittest.TestCase):
    """What the tests of both readers need."""

    def wrong(self, read, text, line):
        error = raised(read, text)
        self.assertIs(type(error), InvalidText, text)
        self.assertEqual(error.line, line, text)

    def replaced(self, read, text, line, new):
        """Tests that a line is the first wrong one, also if others behind it are wrong or missing."""
        lines = text.split("\n")
        changed = [*lines[:line - 1], new, *lines[line:]]
        self.wrong(read, "\n".join(changed), line)
        self.wrong(read, "\n".join([*changed[:line], *["?"] * (len(lines) - line), ""]), line)
        self.wrong(read, "\n".join(changed[:line]), line)

    def wrong_shapes(self, read, text):
        self.wrong(read, "", 1)
        self.wrong(read, "\n" + text, 1)
        for new in ("", "hands", "hands ", " hands 1x2", "hands 1x2 ", "hands  1x2", "hand 1x2", "Hands 1x2",
                    "hands 1x2 2x2 ", "hands 1x2  2x2", "hands\t1x2", "1x2 2x2", "hands 1X2", "hands 1*2", "hands 12",
                    "hands 1x", "hands x2", "hands x", "hands 1x2x", "hands 1x2x2", "hands 01x2", "hands 1x02",
                    "hands +1x2", "hands 1x-2", "hands 1 x2", "hands 1x 2", "hands 1x2,2x2", "hands 1x2\r",
                    "hands \u0661x2", "hands 1x\uff12", "hands 1\u00d72", "whole 12", "hands 0x2", "hands 5x2",
                    "hands 1x1", "hands 1x4", "hands 1x0", "hands 1x2 1x2 1x2 1x2", "hands 4x2 4x2", "hands 4x3",
                    "hands 2x3 2x3", f"hands {GREAT}x2", f"hands 1x{LONGEST}", "hands 1x2" * 2, "hands 1x2 hands 2x2"):
            self.replaced(read, text, 1, new)

    def wrong_seconds(self, read, text, name):
        for new in ("", name, f"{name} ", f" {name} 3", f"{name} 3 ", f"{name}  3", f"{name} 3 3", f"{name}3",
                    f"{name.upper()} 3", "3", f"3 {name}", f"{name}s 3", f"{name}\t3", f"{name[:-1]} 3"):
            self.replaced(read, text, 2, new)
        for word in NO_NUMBERS:
            self.replaced(read, text, 2, f"{name} {word}")

    def missing_lines(self, read, text, needed):
        lines = text.split("\n")
        for many in range(1, needed):
            self.wrong(read, "\n".join(lines[:many]), many + 1)
            # The same with an empty last line, which is not missing but wrong.
            self.wrong(read, "\n".join(lines[:many]) + "\n", many + 1)


class WriteTable(unittest.TestCase):
    def test_known_tables(self):
        self.assertEqual(write_table(TABLE), TEXT)
        self.assertEqual(write_table(Table.empty(((2, 3),))), "hands 2x3\nwhole 0\n0 0 0\n0 0 0")
        self.assertEqual(write_table(Table(((1, 2), (1, 2), (1, 2)), 3, [[0, 1, 0, 0, 0, 2, 0, 0]])),
                         "hands 1x2 1x2 1x2\nwhole 3\n0 1 0 0 0 2 0 0")

    def test_many_tables(self):
        for shape in valid_shapes():
            for table in (any_table(shape, 1), full_table(shape, 2), Table.empty(shape), any_table(shape, 3, GREAT),
                          full_table(shape, 4) * GREAT ** 9):
                text = write_table(table)
                self.assertIs(type(text), str)
                self.assertEqual(text, told_table(table))

    def test_longer_numbers_than_python_writes(self):
        whole = GREAT ** 150 + 7
        table = Table(((1, 2),), whole, [[0, whole]])
        self.assertEqual(write_table(table), f"hands 1x2\nwhole {big(whole)}\n0 {big(whole)}")
        for number in (10 ** 64, 10 ** 64 - 1, 10 ** 64 + 5, 10 ** 128, 10 ** 128 - 1, 3 * 10 ** 200):
            self.assertEqual(write_table(Table(((1, 2),), number, [[number, 0]])),
                             f"hands 1x2\nwhole {number}\n{number} 0")


class ReadTable(Texts):
    def test_written_tables_are_read_back(self):
        for shape in valid_shapes():
            for table in (any_table(shape, 1), full_table(shape, 2), Table.empty(shape), any_table(shape, 3, GREAT),
                          full_table(shape, 4, 10 ** 300 - 1), quiet_table(shape, 5)):
                found = read_table(write_table(table))
                self.assertIs(type(found), Table)
                self.assertEqual(found, table)

    def test_known_texts(self):
        self.assertEqual(read_table(TEXT), TABLE)
        self.assertEqual(read_table("hands 1x3\nwhole 5\n0 5 0"), Table(((1, 3),), 5, [[0, 5, 0]]))
        self.assertEqual(read_table(text="hands 1x2\nwhole 0\n0 0"), Table.empty(((1, 2),)))

    def test_numbers_of_400_digits(self):
        for word in (LONGEST, "1" + "0" * 399):
            table = Table(((1, 2),), int(word), [[int(word), 0]])
            self.assertEqual(read_table(f"hands 1x2\nwhole {word}\n{word} 0"), table)
            self.wrong(read_table, f"hands 1x2\nwhole {word}0\n{word}0 0", 2)
        half = "5" + "0" * 399
        # The numbers sum to one of 401 digits, which is not the whole of any text.
        self.wrong(read_table, f"hands 1x2\nwhole {half}\n{half} {half}", 3)

    def test_every_shape(self):
        for shape in all_shapes():
            text = "hands" + "".join(f" {dials}x{signs}" for dials, signs in shape)
            row = " ".join(["0"] * len(outcome_list(shape)))
            text = "\n".join([text, "whole 0", *[row] * len(context_list(shape))])
            if counted_plans(shape) <= 64:
                self.assertEqual(read_table(text), Table.empty(shape))
            else:
                self.wrong(read_table, text, 1)

    def test_wrong_shapes(self):
        self.wrong_shapes(read_table, TEXT)

    def test_wrong_wholes(self):
        self.wrong_seconds(read_table, TEXT, "whole")
        self.replaced(read_table, TEXT, 2, "bottom 12")

    def test_wrong_rows(self):
        for line in (3, 4):
            for new in ("", "12", "6 6", "4 4 4", "3 3 3 3 0", "12 0 0 0 0", "12 0 0", "0 0 0 12 ", " 0 0 0 12",
                        "0  0 0 12", "0 0  12", "0 0 0 0", "1 1 1 1", "12 0 0 1", "13 0 0 0", "0 0 0 11",
                        "12 1 0 -1", "6\t6 0 0", "0 0 0 whole", "12 0 0 0\r", "12,0,0,0"):
                self.replaced(read_table, TEXT, line, new)
            for word in NO_NUMBERS:
                self.replaced(read_table, TEXT, line, f"12 0 0 {word}")
                self.replaced(read_table, TEXT, line, f"{word} 12 0 0")

    def test_lines_behind_the_last_one(self):
        for more in ("", "0 0 0 12", " ", "x", "\n", "\n0 0 0 12"):
            self.wrong(read_table, TEXT + "\n" + more, 5)
        self.wrong(read_table, "hands 1x2\nwhole 0\n0 0\n", 4)

    def test_missing_lines(self):
        self.missing_lines(read_table, TEXT, 4)
        for shape in (SQUARE, THREE_HANDS, ((4, 2),)):
            text = write_table(any_table(shape, 1))
            self.missing_lines(read_table, text, 2 + len(context_list(shape)))

    def test_other_characters_for_line_ends(self):
        for sign in ("\r\n", "\r", "\x0b", "\x0c", "\x1c", "\x85", "\u2028", "\u2029", "\n\r"):
            self.wrong(read_table, TEXT.replace("\n", sign), 2 if sign == "\n\r" else 1)

    def test_other_digits(self):
        # Digits beyond ASCII that Python itself would read.
        for digit in ("\u0661", "\u07c1", "\u0967", "\uff11", "\U0001d7cf"):
            self.assertEqual(int(digit), 1)
            self.wrong(read_table, TEXT.replace("10", digit + "0"), 3)
            self.wrong(read_table, TEXT.replace("whole 12", f"whole {digit}2"), 2)
            self.wrong(read_table, TEXT.replace("1x2", f"{digit}x2"), 1)

    def test_texts_changed_by_one_character(self):
        for at in range(len(TEXT)):
            for sign in (*"0129x- \nh", ""):
                text = TEXT[:at] + sign + TEXT[at + 1:]
                error = raised(read_table, text)
                if error is None:
                    self.assertEqual(write_table(read_table(text)), text)
                else:
                    self.assertIs(type(error), InvalidText)

    def test_the_same_question_after_another_one(self):
        self.wrong(read_table, TEXT + "\n", 5)
        self.assertEqual(read_table(TEXT), TABLE)
        self.wrong(read_table, "", 1)
        self.assertEqual(read_table(TEXT), TABLE)


class WriteShare(unittest.TestCase):
    def test_known_shares(self):
        self.assertEqual(write_share(SHARE), PAPER)
        share = Share(Mixture(((1, 2),), []), bottom=1, costs=[[1, 1]])
        self.assertEqual(write_share(share), "hands 1x2\nbottom 1\n1 1")

    def test_many_shares(self):
        for shape in SHAPES:
            for seed in range(4):
                self.assertEqual(write_share(any_share(shape, seed)), told_share(any_share(shape, seed)))
            share = plain_share(any_table(shape, 2, GREAT))
            self.assertEqual(write_share(share), told_share(share))

    def test_longer_numbers_than_python_writes(self):
        great = GREAT ** 150
        share = Share(Mixture(((1, 2),), [(((0,),), great + 5)]), bottom=great, costs=[[-great, great + 1]])
        self.assertEqual(write_share(share), f"hands 1x2\nbottom {big(great)}\n-{big(great)} {big(great + 1)}\n"
                         f"{big(great + 5)} 0")


class ReadShare(Texts):
    def test_written_shares_are_read_back(self):
        for shape in valid_shapes():
            for share in (any_share(shape, 1), any_share(shape, 2), Share(Mixture(shape, []), bottom=GREAT, costs=[
                    [10 ** 399, -10 ** 399, *row[2:]] for row in any_rating(shape, 3)])):
                found = read_share(write_share(share))
                self.assertIs(type(found), Share)
                self.assertEqual(parts(found), parts(share))

    def test_known_papers(self):
        self.assertEqual(parts(read_share(PAPER)), parts(SHARE))
        found = read_share(text="hands 1x2\nbottom 1\n1 1\n1 0\n2 1")
        self.assertEqual(parts(found), (((1, 2),), ((((0,),), 1), (((1,),), 2)), 1, ((1, 1),)))
        # Nothing but the form is tested: this is a share of no table.
        found = read_share("hands 1x2\nbottom 9\n-5 0")
        self.assertEqual(parts(found), (((1, 2),), (), 9, ((-5, 0),)))

    def test_wrong_shapes(self):
        self.wrong_shapes(read_share, PAPER)

    def test_wrong_bottoms(self):
        self.wrong_seconds(read_share, PAPER, "bottom")
        for new in ("bottom 0", "bottom -3", "whole 3"):
            self.replaced(read_share, PAPER, 2, new)
        self.assertEqual(read_share(PAPER.replace("bottom 3", f"bottom {LONGEST}")).bottom, int(LONGEST))

    def test_wrong_rows(self):
        for line in (3, 4):
            for new in ("", "1", "1 2 3 4 5", "1 2 3 4 5 6 7", " 1 2 3 4 5 6", "1 2 3 4 5 6 ", "1 2 3  4 5 6",
                        "1 2 3 4 5 x", "4 0 01"):
                self.replaced(read_share, PAPER, line, new)
            for word in NO_NUMBERS:
                if word != "-1":
                    self.replaced(read_share, PAPER, line, f"0 0 0 0 0 {word}")
                    self.replaced(read_share, PAPER, line, f"{word} 0 0 0 0 0")
                    self.replaced(read_share, PAPER, line, f"0 0 -{word} 0 0 0")

    def test_integers_below_0_of_400_digits(self):
        lines = PAPER.split("\n")
        for word in ("-1", "-10", f"-{LONGEST}", LONGEST):
            lines[2] = f"0 0 {word} 0 0 0"
            self.assertEqual(read_share("\n".join(lines)).costs[0], (0, 0, int(word), 0, 0, 0))
        for word in ("-0", "-", "--1", "-01", "- 1", f"-{LONGEST}0", f"-{LONGEST[1:]}\u0661", "-+1", "+1"):
            lines[2] = f"0 0 {word} 0 0 0"
            self.wrong(read_share, "\n".join(lines), 3)

    def test_wrong_pairs(self):
        for line in (5, 6):
            for new in ("", "4", "4 0", "4 0 01 0", "4 0 01 ", " 4 0 01", "4  0 01", "4 0  01", "4 001", "4 0 0 1",
                        "4 0 0", "4 0 011", "4 3 01", "4 0 02", "4 0 21", "4 00 01", "4 -1 01", "4 0 -1", "4 0 0-1",
                        "4 x 01", "4 0 0x", "0 0 01", "4 0 0\u0661", "4 \u0660 01", "4 0 0\u00b9", "4 0\t01",
                        "4 0 01\r", "01 0", "4 01 0"):
                self.replaced(read_share, PAPER, line, new)
            for word in NO_NUMBERS:
                self.replaced(read_share, PAPER, line, f"{word} 0 01")
        # Weights and signs as they should be.
        lines = PAPER.split("\n")
        for weight in ("1", "10", LONGEST):
            found = read_share("\n".join([*lines[:4], f"{weight} 2 11"]))
            self.assertEqual(found.mixture.pairs, ((((2,), (1, 1)), int(weight)),))

    def test_plans_that_are_not_greater_than_the_one_before(self):
        lines = PAPER.split("\n")[:4]
        for plans, line in ((["0 01", "0 01"], 6), (["0 01", "0 00"], 6), (["2 10", "0 01", "0 01"], 6),
                            (["0 00", "0 10", "0 01"], 7), (["0 00", "2 00", "1 11"], 7),
                            (["0 11", "1 00", "1 00"], 7)):
            text = "\n".join([*lines, *[f"1 {plan}" for plan in plans]])
            self.wrong(read_share, text, line)
            self.wrong(read_share, text + "\n", line)
        text = "\n".join([*lines, "1 0 11", "9 1 00", "2 1 01", "1 2 00"])
        self.assertEqual(len(read_share(text).mixture.pairs), 4)

    def test_an_empty_last_line_and_missing_lines(self):
        self.wrong(read_share, PAPER + "\n", 7)
        self.wrong(read_share, "\n".join(PAPER.split("\n")[:4]) + "\n", 5)
        self.missing_lines(read_share, PAPER, 4)
        self.assertEqual(read_share("\n".join(PAPER.split("\n")[:4])).mixture.pairs, ())

    def test_papers_changed_by_one_character(self):
        for at in range(len(PAPER)):
            for sign in (*"0123x- \nh", ""):
                text = PAPER[:at] + sign + PAPER[at + 1:]
                error = raised(read_share, text)
                if error is None:
                    self.assertEqual(write_share(read_share(text)), text)
                else:
                    self.assertIs(type(error), InvalidText)


class Chart(unittest.TestCase):
    def test_known_charts(self):
        self.assertEqual(chart(Table(((1, 2), (1, 2)), 12, [[1, 0, 10, 1]])),
                         "        00     01     10     11\n00       1      0     10      1")
        self.assertEqual(chart(Table(((2, 3),), 5, [[0, 5, 0], [1, 2, 2]])),
                         "         0      1      2\n0        0      5      0\n1        1      2      2")
        self.assertEqual(chart(Table(((1, 2), (1, 2), (1, 2)), 0, [[0] * 8])).split("\n")[1],
                         "000" + "      0" * 8)

    def test_long_amounts(self):
        table = Table(((1, 2),), 1234567, [[999999, 234568]])
        self.assertEqual(chart(table).split("\n")[1], "0   999999 234568")
        table = Table(((1, 2),), 12345678, [[1234567, 11111111]])
        self.assertEqual(chart(table).split("\n")[1], "0   1234567 11111111")
        whole = GREAT ** 150
        self.assertEqual(chart(Table(((1, 2),), whole, [[whole, 0]])).split("\n")[1], f"0   {big(whole)}      0")

    def test_many_charts(self):
        for shape in SHAPES:
            for table in (BOX * 9, any_table(shape, 1), full_table(shape, 2, 10 ** 8), Table.empty(shape)):
                lines = [f"{'':<3}"] + [f"{''.join(map(str, context)):<3}" for context in context_list(table.shape)]
                columns = [["".join(map(str, outcome)) for outcome in outcome_list(table.shape)], *table.rows]
                for at, row in enumerate(columns):
                    for word in row:
                        lines[at] += f" {word:>6}"
                self.assertEqual(chart(table), "\n".join(lines))
