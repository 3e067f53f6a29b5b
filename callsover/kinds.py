"""The kinds of values of which everything is built; each test takes any value."""

VARIABLES = ("x", "y")
SIGNS = ("+", "-", "*")
CELLS = 2
LONGEST_NAME = 8
LEAST_BASE = 2
GREATEST_BASE = 4


def is_integer(thing):
    """Tell whether the thing is an integer."""
    # Python counts True and False among the integers, the document does not.
    return isinstance(thing, int) and not isinstance(thing, bool)


def is_below(thing, top):
    """Tell whether the thing is an integer from 0 to top - 1."""
    return is_integer(thing) and 0 <= thing < top


def is_base(thing):
    """Tell whether the thing is a base."""
    return is_integer(thing) and LEAST_BASE <= thing <= GREATEST_BASE


def is_name(thing):
    """Tell whether the thing is a name of a part."""
    if not isinstance(thing, str) or not 1 <= len(thing) <= LONGEST_NAME:
        return False
    return all(["a" <= letter <= "z" for letter in thing])


def is_cell(thing):
    """Tell whether the thing is a cell."""
    return is_below(thing, CELLS)


def is_variable(thing):
    """Tell whether the thing is a variable."""
    return thing in VARIABLES


def is_operand(thing, base):
    """Tell whether the thing is a number or a variable."""
    return is_variable(thing) or is_below(thing, base)


def is_expression(thing, base):
    """Tell whether the thing is an expression."""
    if not isinstance(thing, tuple):
        return is_operand(thing, base)
    if len(thing) != 3 or thing[0] not in SIGNS:
        return False
    return is_operand(thing[1], base) and is_operand(thing[2], base)


def copied(thing):
    """A copy of any value that shares no list with it."""
    if isinstance(thing, list):
        return [copied(item) for item in thing]
    if isinstance(thing, tuple):
        return tuple([copied(item) for item in thing])
    return thing
