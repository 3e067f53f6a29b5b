"""Points 4, 5 and 6: texts, what they are, how they are written and read."""

import itertools
import unittest

from callsover.errors import NoText
from callsover.texts import is_text, read_text, show_text
from tests.helpers import BASES, FORMS, ODD_VALUES, Case, good_items, rows_of_form, same, some_texts

EXAMPLE = (("ask", "x"), ("if", "x", 0, 3), ("say", ("+", "x", 1)))

# Values that are put in the place of every item; each is good for some kinds and bad for others.
POOL = ODD_VALUES + (
    3, 4, 5, 15, 16, 17, 18, "y", "z", "X", "xx", "x ", " x", "+", "1", "a", "ab", "abcdefgh", "abcdefghi", "aBc",
    "a1", "a b", "f\n", "`", "{", "\u00e4", "x+1", ("x",), ("y", "x"), ("+", "x", 1), ["+", "x", 1], ("-", 1, 1),
    ("*", "y", "y"), ("+", "x"), ("+", "x", 1, 1), ("+", "x", True), ("+", False, "x"), ("+", True, True),
    ("/", "x", 1), ("", "x", 1), ("+-", "x", 1), ("+", "x", "z"), ("+", "z", "x"), ("+", "x", 2), ("-", 3, "x"),
    ("*", 4, 0), ("+", "x", -1), ("+", "x", None), (["+"], "x", 1), (None, "x", 1), ("+", ("+", "x", 1), 1),
    ("+", 1, ("+", "x", 1)), ("+", ["x"], 1), ("x", "+", 1), ("+", "", "x"), ("say", 1), 2 ** 64,
)


def text_with(row, rows):
    """A text of so many rows in which the row stands among others."""
    return (("say", 0),) * (rows // 2) + (row,) + (("say", 0),) * (rows - rows // 2 - 1)


class IsText(Case):
    def assert_text(self, wanted, thing, base):
        self.assert_same(is_text(thing, base=base), wanted, (thing, base))

    def test_examples_and_the_default_base(self):
        self.assert_same(is_text(EXAMPLE), True)
        self.assert_same(is_text((("say", 2),), base=2), False)
        self.assert_same(is_text((("say", 2),)), True)
        self.assert_same(is_text((("say", 3),)), False)
        self.assert_same(is_text((("say", 3),), base=4), True)

    def test_all_rows_of_all_forms(self):
        for base, rows, form in itertools.product(BASES, (1, 2, 16), FORMS):
            for row in rows_of_form(form, base, rows):
                self.assert_text(True, text_with(row, rows), base)

    def test_every_value_in_the_place_of_every_item(self):
        for base, rows, form in itertools.product(BASES, (1, 3, 16), FORMS):
            columns = [good_items(kind, base, rows) for kind in form[1:]]
            plain = [form[0]] + [column[-1] for column in columns]
            for at, column in enumerate(columns):
                for value in POOL:
                    row = plain[:]
                    row[at + 1] = value
                    good = any(same(value, item) for item in column)
                    if form[at + 1] == "N":
                        good = value in ("x", "y", "z", "a", "ab", "xx", "abcdefgh", "alike", "apart")
                    self.assert_text(good, text_with(tuple(row), rows), base)

    def test_numbers_end_below_the_base(self):
        for base in BASES:
            for number in range(-1, 6):
                good = 0 <= number < base
                for row in (("say", number), ("end", ("*", number, "x")), ("set", "y", ("-", 0, number)),
                            ("if", number, 0, 0), ("if", 0, number, 0), ("write", 1, number), ("call", "f", number, "x")):
                    self.assert_text(good, (row,), base)

    def test_row_numbers_end_at_the_number_of_rows(self):
        for rows in range(1, 17):
            for target in (-1, 0, rows - 1, rows, rows + 1, rows + 2):
                good = 0 <= target <= rows
                self.assert_text(good, text_with(("go", target), rows), 2)
                self.assert_text(good, text_with(("if", "x", "y", target), rows), 4)

    def test_cells(self):
        for cell, good in ((0, True), (1, True), (2, False), (-1, False), (True, False), (False, False), ("0", False)):
            self.assert_text(good, (("read", cell, "x"),), 4)
            self.assert_text(good, (("write", cell, "x"),), 4)

    def test_names(self):
        letters = "abcdefghijklmnopqrstuvwxyz"
        for length in range(12):
            self.assert_text(1 <= length <= 8, (("call", letters[:length], 0, "x"),), 3)
        for letter in letters:
            self.assert_text(True, (("call", letter, 0, "x"),), 3)
        for code in range(256):
            if chr(code) not in letters:
                self.assert_text(False, (("call", chr(code), 0, "x"),), 3)
                self.assert_text(False, (("call", "ab" + chr(code), 0, "x"),), 3)

    def test_number_of_rows(self):
        for rows in range(20):
            self.assert_text(rows <= 16, (("say", 1),) * rows, 2)
        self.assert_text(False, [], 3)

    def test_lists_in_place_of_tuples(self):
        self.assert_text(True, (("say", ("+", "x", 1)),), 3)
        self.assert_text(False, [("say", ("+", "x", 1))], 3)
        self.assert_text(False, (["say", ("+", "x", 1)],), 3)
        self.assert_text(False, (("say", ["+", "x", 1]),), 3)

    def test_truth_values_in_place_of_numbers(self):
        for base in BASES:
            for value in (True, False):
                for row in (("say", value), ("end", ("+", value, "x")), ("end", ("+", "x", value)), ("go", value),
                            ("if", value, 0, 0), ("if", 0, value, 0), ("if", 0, 0, value), ("read", value, "x"),
                            ("write", value, 0), ("write", 0, value), ("call", "f", value, "x"), ("set", "x", value)):
                    self.assert_text(False, (row,), base)

    def test_rows_of_no_form(self):
        for value in POOL:
            if not same(value, ("say", 1)):
                self.assert_text(False, (value,), 3)
                self.assert_text(False, (("say", 0), value, ("say", 0)), 3)
            self.assert_text(False, ((value, "x"),), 3)
            self.assert_text(False, ((value,),), 3)
        for row in ((), ("mute",), ("Say", 1), ("says", 1), ("say ", 1), ("over", 1), ("1", 1), ("begin", "f", 0)):
            self.assert_text(False, (row,), 3)

    def test_rows_that_are_too_short_or_too_long(self):
        for form in FORMS:
            row = next(rows_of_form(form, 2, 1))
            self.assert_text(True, (row,), 2)
            for length in range(len(row)):
                self.assert_text(False, (row[:length],), 2)
            for more in (0, "x", None, row[-1]):
                self.assert_text(False, (row + (more,),), 2)
            self.assert_text(False, (row[1:],), 2)

    def test_every_other_value(self):
        for value in POOL:
            self.assert_text(value == () and isinstance(value, tuple), value, 3)

    def test_one_bad_row_is_enough(self):
        for at in range(16):
            rows = [("say", 1)] * 16
            rows[at] = ("say", 2)
            self.assert_text(False, tuple(rows), 2)
            self.assert_text(True, tuple(rows), 3)

    def test_large_values(self):
        self.assert_text(False, tuple(("say", 1) for _ in range(10000)), 3)
        self.assert_text(False, (("say",) + (1,) * 20000,), 3)
        self.assert_text(False, [[1] * 100] * 200, 3)


# Each row as it stands in point 6.
WRITTEN = (
    (("set", "x", ("-", "y", 1)), "set x y-1"),
    (("set", "y", "x"), "set y x"),
    (("if", "x", 0, 1), "if x 0 1"),
    (("if", ("+", "x", 1), ("*", 1, "y"), 0), "if x+1 1*y 0"),
    (("go", 1), "go 1"),
    (("say", 1), "say 1"),
    (("say", ("-", "y", "x")), "say y-x"),
    (("ask", "y"), "ask y"),
    (("read", 0, "x"), "read 0 x"),
    (("read", 1, "y"), "read 1 y"),
    (("write", 1, ("*", 1, 1)), "write 1 1*1"),
    (("write", 0, "y"), "write 0 y"),
    (("call", "abcdefgh", ("+", 0, 0), "y"), "call abcdefgh 0+0 y"),
    (("call", "x", "x", "x"), "call x x x"),
    (("end", 0), "end 0"),
)


class ShowText(Case):
    def test_examples(self):
        self.assert_same(show_text((("set", "x", ("-", "y", 1)), ("go", 0))), "set x y-1\ngo 0")
        self.assert_same(show_text(EXAMPLE), "ask x\nif x 0 3\nsay x+1")
        self.assert_same(show_text((("say", 2), ("end", ("*", 2, "y")))), "say 2\nend 2*y")

    def test_the_text_without_rows(self):
        self.assert_same(show_text(()), "")

    def test_each_form(self):
        for row, written in WRITTEN:
            self.assert_same(show_text((row,)), written)
        self.assert_same(show_text(tuple(row for row, _ in WRITTEN)), "\n".join(written for _, written in WRITTEN))

    def test_row_numbers_of_two_digits(self):
        self.assert_same(show_text((("go", 16),) * 16), "\n".join(["go 16"] * 16))


class ReadText(Case):
    def assert_no_text(self, row, string, base=3):
        self.assert_raises(NoText, {"row": row}, read_text, string, base=base)

    def test_examples_and_the_default_base(self):
        self.assert_raises(NoText, {"row": 1}, read_text, "say x\nend 3")
        self.assert_same(read_text("say x\nend 2"), (("say", "x"), ("end", 2)))
        self.assert_same(read_text("say x\nend 3", base=4), (("say", "x"), ("end", 3)))
        self.assert_same(read_text("ask x\nif x 0 3\nsay x+1"), EXAMPLE)
        self.assert_same(read_text("set x y-1\ngo 0"), (("set", "x", ("-", "y", 1)), ("go", 0)))

    def test_the_empty_string(self):
        self.assert_same(read_text(""), ())

    def test_each_form(self):
        for base in BASES:
            for row, written in WRITTEN:
                self.assert_same(read_text(written, base=base), (row,))

    def test_there_and_back_for_all_rows_of_all_forms(self):
        for base, rows, form in itertools.product(BASES, (1, 2, 16), FORMS):
            for row in rows_of_form(form, base, rows):
                text = text_with(row, rows)
                self.assert_same(read_text(show_text(text), base=base), text)

    def test_there_and_back_for_whole_texts(self):
        for base in BASES:
            for text in some_texts(200, base, most=16):
                self.assert_same(read_text(show_text(text), base=base), text)

    def test_no_string(self):
        for value in ODD_VALUES + (EXAMPLE, list(EXAMPLE), ["say x"], b"say x"):
            if not isinstance(value, str):
                self.assert_no_text(-1, value)

    def test_rows_that_are_not_so_written(self):
        for bad in ("", " ", "  ", " say 1", "say 1 ", "say  1", "say\t1", "say 1\r", "say", "say ", "say 1 1", "Say 1",
                    "SAY 1", "says 1", "say1", "say 3", "say 9", "say -1", "say +1", "say 01", "say 00", "say 0x",
                    "say x+", "say +x", "say x+01", "say x+1+1", "say x +1", "say x+ 1", "say x/1", "say x+z", "say z",
                    "say xy", "say x+3", "say 3*x", "say --1", "say x--1", "say 1.0", "say 1_0", "say ('+', 'x', 1)",
                    "say \u0661", "say \u00b2", "say True", "say None", "say x=1", "say 111", "say xxx",
                    "ask", "ask 1", "ask z", "ask X", "ask x y", "ask x+1", "ask xy", "set x", "set 1 x", "set x+1 1",
                    "set x 1 1", "set x 3", "set z 1", "go", "go x", "go -1", "go 3", "go 00", "go 01", "go 1+0", "go 1 1",
                    "go 1.", "go 10", "go 99999", "if x 0", "if x 0 3", "if x 0 00", "if x 0 x", "if x 0 -1", "if 3 0 0",
                    "if 0 3 0", "if x 0 0 0", "if x == 0 0", "read x 0", "read 2 x", "read 00 x", "read 01 x", "read -1 x",
                    "read 0", "read 0 1", "read 0 x y", "read x", "write 0", "write 2 x", "write x 0", "write 0 3",
                    "write 01 1", "write 0 x y", "call f 0", "call 0 x", "call f x 0", "call f 3 x", "call F 0 x",
                    "call abcdefghi 0 x", "call f1 0 x", "call  0 x", "call f  x", "call f 0 x y", "call f 0 z",
                    "call \u00e4 0 x", "end", "end 3", "end 0 0", "end x+y+1", "end end", "mute", "over 1", "f", "0",
                    "tell f -", "-", "/", "say 1 / say 1", "# say 1", "say 1;"):
            self.assert_no_text(1, "say 0\n" + bad)
            self.assert_no_text(0, bad + "\nsay 0")
            if bad != "":
                self.assert_no_text(0, bad)

    def test_the_first_bad_row_counts(self):
        self.assert_no_text(0, "say 3\nsay 3")
        self.assert_no_text(1, "say 1\nsay 3\nsay 3\n")
        self.assert_no_text(2, "say 1\nsay 1\n\nsay 3")
        for at in range(16):
            rows = ["say 1"] * 16
            rows[at] = "say 2"
            self.assert_no_text(at, "\n".join(rows), base=2)
            self.assertEqual(len(read_text("\n".join(rows))), 16)

    def test_empty_rows(self):
        self.assert_no_text(0, "\n")
        self.assert_no_text(0, "\n\n\n")
        self.assert_no_text(0, "\nsay 1")
        self.assert_no_text(1, "say 1\n")
        self.assert_no_text(1, "say 1\n\nsay 1")
        self.assert_no_text(2, "say 1\nsay 1\n")
        self.assert_no_text(15, "\n".join(["say 1"] * 15) + "\n")

    def test_more_than_sixteen_rows(self):
        self.assertEqual(len(read_text("\n".join(["say 1"] * 16))), 16)
        self.assert_no_text(16, "\n".join(["say 1"] * 17))
        self.assert_no_text(16, "\n".join(["say 1"] * 16) + "\n")
        self.assert_no_text(16, "\n".join(["say 1"] * 16) + "\nsay 9")
        self.assert_no_text(16, "\n".join(["say 1"] * 600))
        self.assert_no_text(16, "\n".join(["say 1"] * 18 + ["say 9"]))
        self.assert_no_text(15, "\n".join(["say 1"] * 15 + ["say 9"] * 5))
        self.assert_no_text(0, "\n".join(["say 9"] + ["say 1"] * 16))

    def test_row_numbers_up_to_the_number_of_rows_of_the_string(self):
        for rows in range(1, 25):
            for target in (0, rows - 1, rows, rows + 1, rows + 10, 10 ** 59, 10 ** 70):
                lines = ["say 1"] * rows
                at = min(rows, 16) - 1
                for word in ("go", "if x y"):
                    lines[at] = f"{word} {target}"
                    if target > rows:
                        self.assert_no_text(at, "\n".join(lines))
                    elif rows > 16:
                        self.assert_no_text(16, "\n".join(lines))
                    else:
                        self.assert_same(read_text("\n".join(lines))[at][-1], target)

    def test_very_long_strings(self):
        self.assert_no_text(0, "go " + "9" * 3990)
        self.assert_no_text(0, "say " + "1" * 3990)
        self.assert_no_text(0, "say " + "1" * 6000)
        self.assert_no_text(0, "go " + "0" * 6000)
        self.assert_no_text(0, "x" * 4000)
        self.assert_no_text(0, " " * 4000)
        self.assert_no_text(1, "go 3993" + "\n" * 3992)
        self.assert_no_text(0, "go 3994" + "\n" * 3992)

    def test_what_is_read_is_what_is_written_and_nothing_else_is_read(self):
        """Every string near a written text either is a written text or raises NoText."""
        signs = " \n01239xyzaf+-*s"
        for base in BASES:
            for text in some_texts(12, base, most=4, seed=3):
                written = show_text(text)
                for at in range(len(written) + 1):
                    near = [written[:at] + sign + written[at:] for sign in signs]
                    near += [written[:at] + sign + written[at + 1:] for sign in signs]
                    near.append(written[:at] + written[at + 1:])
                    for string in near:
                        self.check_near(string, base)

    def check_near(self, string, base):
        try:
            text = read_text(string, base=base)
        except NoText as error:
            self.assertIn(error.row, range(16))
            # Up to the row that is named all rows are good, in a string of so many rows.
            lines = string.split("\n")
            filled = lines[:error.row] + ["say 0"] * (len(lines) - error.row)
            self.assertEqual(show_text(read_text("\n".join(filled), base=base)), "\n".join(filled))
            return
        self.assertTrue(is_text(text, base=base), string)
        self.assert_same(show_text(text), string)


if __name__ == "__main__":
    unittest.main()
