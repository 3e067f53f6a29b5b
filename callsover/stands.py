"""Stands: where a call of a text can be between two deeds, and how it goes on from there."""

from callsover.errors import NoBranch, NoStand
from callsover.kinds import is_below, is_integer

MUTE = (-1, 0, 0)
SILENT = ("set", "if", "go")
RECEIVING = ("ask", "read", "call")
PASSING = ("say", "write")
# Where the expression stands whose value the deed of a row tells; ask and read tell none.
TOLD_AT = {"say": 1, "write": 2, "call": 2, "end": 1}


def combine(sign, one, other, base):
    """The sum, the difference or the product of two numbers."""
    if sign == "+":
        return (one + other) % base
    if sign == "-":
        return (one - other) % base
    return (one * other) % base


def value_of(expression, point, base):
    """Compute an expression with the variables of a point (row, x, y)."""
    if isinstance(expression, tuple):
        sign, left, right = expression
        return combine(sign, value_of(left, point, base), value_of(right, point, base), base)
    if expression == "x":
        return point[1]
    if expression == "y":
        return point[2]
    return expression


def assign(variable, value, point):
    """Assign the value to the variable and go to the next row."""
    row, x, y = point
    if variable == "x":
        return (row + 1, value, y)
    return (row + 1, x, value)


def is_silent(text, row):
    """Tell whether a row number of a text is that of a silent row."""
    return row < len(text) and text[row][0] in SILENT


def do_silent(text, point, base):
    """Execute the silent row of a point."""
    row, x, y = point
    line = text[row]
    if line[0] == "set":
        return assign(line[1], value_of(line[2], point, base), point)
    if line[0] == "go":
        return (line[1], x, y)
    if value_of(line[1], point, base) == value_of(line[2], point, base):
        return (line[3], x, y)
    return (row + 1, x, y)


def settle(text, point, base, landed):
    """Execute silent rows from a point on, up to a stand.

    What is known of where points land is looked up in `landed`, a dict, and noted there.
    """
    passed = {}
    while is_silent(text, point[0]) and point not in landed and point not in passed:
        passed[point] = True
        point = do_silent(text, point, base)
    # Silent rows receive nothing, so a point that comes again comes forever.
    stand = MUTE if point in passed else landed.get(point, point)
    for before in passed:
        landed[before] = stand
    return stand


def is_stand(text, thing, base):
    """Tell whether any value is a stand of the text."""
    if not isinstance(thing, tuple) or len(thing) != 3:
        return False
    if not all([is_integer(part) for part in thing]):
        return False
    if thing == MUTE:
        return True
    row, x, y = thing
    if not is_below(row, len(text) + 1) or is_silent(text, row):
        return False
    return is_below(x, base) and is_below(y, base)


def check_stand(text, thing, base):
    """Refuse a value that is not a stand of the text."""
    if not is_stand(text, thing, base):
        raise NoStand()


def told_expression(line):
    """The expression whose value the deed of a row tells, 0 if the deed tells none."""
    return line[TOLD_AT[line[0]]] if line[0] in TOLD_AT else 0


def row_deed(line, value):
    """The deed of a row that is not silent, with the value of the expression that it tells."""
    if line[0] in TOLD_AT:
        return line[:TOLD_AT[line[0]]] + (value,)
    # A row that tells nothing is its deed and the variable that receives a number.
    return line[:-1]


def deed_at(text, stand, base):
    """The deed at a stand that is known to be one."""
    if stand == MUTE:
        return ("mute",)
    if stand[0] == len(text):
        return ("end", 0)
    line = text[stand[0]]
    return row_deed(line, value_of(told_expression(line), stand, base))


def first_stand(text, argument, *, base=3):
    """The stand at which a call with the argument begins."""
    return settle(text, (0, argument, 0), base, {})


def stands_of(text, *, base=3):
    """All stands of the text but MUTE, in ascending order."""
    rows = [row for row in range(len(text) + 1) if not is_silent(text, row)]
    return [(row, x, y) for row in rows for x in range(base) for y in range(base)]


def deed_of(text, stand, *, base=3):
    """The deed at a stand, any value."""
    check_stand(text, stand, base)
    return deed_at(text, stand, base)


def branch_count(deed, *, base=3):
    """The number of branches of a deed."""
    if deed[0] in RECEIVING:
        return base
    if deed[0] in PASSING:
        return 1
    return 0


def go_on(text, stand, branch, base, landed):
    """The stand to which a branch leads from a stand that has it; `landed` is as in settle."""
    row, x, y = stand
    line = text[row]
    if line[0] in RECEIVING:
        # The variable is the last item of each row that receives a number.
        return settle(text, assign(line[-1], branch, stand), base, landed)
    return settle(text, (row + 1, x, y), base, landed)


def targets_at(text, stand, base, landed):
    """The stands to which the branches lead from a stand that is known to be one; `landed` is as in settle."""
    count = branch_count(deed_at(text, stand, base), base=base)
    return tuple([go_on(text, stand, branch, base, landed) for branch in range(count)])


def walk(text, stand, path, *, base=3):
    """The stands that the path leads through, beginning with the stand."""
    check_stand(text, stand, base)
    stands = [stand]
    # A long path comes to the same stands again and again.
    known = {}
    landed = {}
    for at, branch in enumerate(path):
        here = stands[-1]
        if here not in known:
            known[here] = targets_at(text, here, base, landed)
        if not is_below(branch, len(known[here])):
            raise NoBranch(at)
        stands.append(known[here][branch])
    return stands
