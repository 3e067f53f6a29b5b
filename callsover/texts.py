"""Texts: what they are, how they are written, and how they are read."""

from callsover.errors import NoText
from callsover.kinds import VARIABLES, is_below, is_cell, is_expression, is_name, is_variable

MOST_ROWS = 16
MOST_DIGITS = 60
FORMS = {
    "set": ("variable", "expression"),
    "if": ("expression", "expression", "row"),
    "go": ("row",),
    "say": ("expression",),
    "ask": ("variable",),
    "read": ("cell", "variable"),
    "write": ("cell", "expression"),
    "call": ("name", "expression", "variable"),
    "end": ("expression",),
}


def is_item(item, kind, rows, base):
    """Tell whether an item of a row is of the kind, in a text of so many rows."""
    if kind == "variable":
        return is_variable(item)
    if kind == "expression":
        return is_expression(item, base)
    if kind == "cell":
        return is_cell(item)
    if kind == "name":
        return is_name(item)
    return is_below(item, rows + 1)


def is_row(thing, rows, base):
    """Tell whether any value is a row of a text of so many rows."""
    if not isinstance(thing, tuple) or len(thing) == 0:
        return False
    # A list cannot be looked up in a dict.
    if not isinstance(thing[0], str) or thing[0] not in FORMS:
        return False
    form = FORMS[thing[0]]
    if len(thing) != len(form) + 1:
        return False
    for item, kind in zip(thing[1:], form):
        if not is_item(item, kind, rows, base):
            return False
    return True


def is_text(thing, *, base=3):
    """Tell whether any value is a text for the base."""
    if not isinstance(thing, tuple) or len(thing) > MOST_ROWS:
        return False
    return all([is_row(row, len(thing), base) for row in thing])


def show_item(item):
    """Write an item of a row as one word."""
    if isinstance(item, tuple):
        sign, left, right = item
        return f"{left}{sign}{right}"
    return str(item)


def show_row(row):
    """Write a row."""
    return " ".join([show_item(item) for item in row])


def show_text(text):
    """Write a text."""
    return "\n".join([show_row(row) for row in text])


def read_integer(word):
    """Read decimal digits without leading zeros; None if the word is not so written."""
    # Python refuses to read very long numbers, and no number here is that long.
    if not word.isascii() or not word.isdigit() or len(word) > MOST_DIGITS:
        return None
    if word[0] == "0" and word != "0":
        return None
    return int(word)


def read_operand(word):
    """Read a number or a variable; None if the word is neither."""
    return word if word in VARIABLES else read_integer(word)


def read_expression(word):
    """Read an expression; what comes back may still be none for the base."""
    # No base has a number of two digits, so each side of a sign is one character.
    if len(word) == 3:
        return (word[1], read_operand(word[0]), read_operand(word[2]))
    return read_operand(word)


def read_item(word, kind):
    """Read an item of a row; what comes back may still be none of the kind."""
    if kind == "expression":
        return read_expression(word)
    if kind == "cell" or kind == "row":
        return read_integer(word)
    return word


def read_row(written):
    """Read a row; what comes back may still be none."""
    first, *words = written.split(" ")
    form = FORMS.get(first, ())
    if len(words) != len(form):
        return None
    items = [read_item(word, kind) for word, kind in zip(words, form)]
    return (first, *items)


def read_text(string, *, base=3):
    """Read a text from any value."""
    if not isinstance(string, str):
        raise NoText(-1)
    if string == "":
        return ()
    lines = string.split("\n")
    rows = [read_row(line) for line in lines[:MOST_ROWS]]
    for at, row in enumerate(rows):
        if not is_row(row, len(lines), base):
            raise NoText(at)
    if len(lines) > MOST_ROWS:
        raise NoText(MOST_ROWS)
    return tuple(rows)
