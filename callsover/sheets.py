"""Sheets: all points of a text at once, each given by its number.

A point is (row, x, y), a stand or a moment between silent rows. Its number is (row * base + x) * base + y.
Behind the points at the end of the text come those of one more row, for MUTE: its row is -1, so the same sum
finds it in a list of all points, counted from the back.
"""

from callsover.stands import PASSING, RECEIVING, SILENT, combine, row_deed, told_expression


def point_number(stand, base):
    """The number of a point; that of MUTE counts from the back."""
    row, x, y = stand
    return (row * base + x) * base + y


def stand_at(number, base):
    """The stand with the number, other than MUTE."""
    row, rest = divmod(number, base * base)
    return (row, rest // base, rest - rest // base * base)


def grid_of(expression, base, grids):
    """The values of an expression at the points of a row.

    What is known of expressions is looked up in `grids`, a dict, and noted there.
    """
    if expression not in grids:
        grids[expression] = new_grid(expression, base, grids)
    return grids[expression]


def new_grid(expression, base, grids):
    """Compute an expression at the points of a row; `grids` is as in grid_of."""
    if isinstance(expression, tuple):
        sign, left, right = expression
        other = grid_of(right, base, grids)
        return [combine(sign, value, other[at], base) for at, value in enumerate(grid_of(left, base, grids))]
    if expression == "x":
        return [x for x in range(base) for y in range(base)]
    if expression == "y":
        return [y for x in range(base) for y in range(base)]
    return [expression] * (base * base)


def next_points(line, row, base, grids):
    """Where the points of a silent row lead when the row is executed."""
    size = base * base
    after = (row + 1) * size
    if line[0] == "go":
        return list(range(line[1] * size, line[1] * size + size))
    if line[0] == "if":
        other = grid_of(line[2], base, grids)
        there = line[3] * size
        return [(there if value == other[at] else after) + at for at, value in enumerate(grid_of(line[1], base, grids))]
    values = grid_of(line[2], base, grids)
    if line[1] == "x":
        return [after + value * base + at % base for at, value in enumerate(values)]
    return [after + at - at % base + value for at, value in enumerate(values)]


def far_ahead(ahead):
    """For each point the one that is reached from it by more rows than there are points."""
    # Each round doubles the number of rows; once that makes no difference, no number of rows does.
    for doubling in range(len(ahead).bit_length()):
        further = [ahead[point] for point in ahead]
        if further == ahead:
            return ahead
        ahead = further
    return ahead


def landings(text, base, grids):
    """For each point the number of the point at which a call stands that comes there."""
    size = base * base
    ahead = list(range((len(text) + 2) * size))
    silent = [line[0] in SILENT for line in text] + [False, False]
    if True not in silent:
        return ahead
    for row, line in enumerate(text):
        if silent[row]:
            ahead[row * size:(row + 1) * size] = next_points(line, row, base, grids)
    # A call that is among silent rows after so many rows stays there forever.
    mute = (len(text) + 1) * size
    return [mute if silent[point // size] else point for point in far_ahead(ahead)]


def row_targets(line, row, landed, base):
    """For each point of a row that is not silent, where its branches lead."""
    size = base * base
    after = landed[(row + 1) * size:(row + 2) * size]
    if line[0] in PASSING:
        return [(point,) for point in after]
    if line[0] not in RECEIVING:
        return [() for point in after]
    # The variable is the last item of each row that receives a number; the other one keeps its value.
    if line[-1] == "x":
        return [tuple(after[y::base]) for y in range(base)] * base
    return [tuple(after[x * base:(x + 1) * base]) for x in range(base) for y in range(base)]


def row_entries(line, row, landed, base, grids):
    """For each point of a row that is not silent, its deed and where its branches lead."""
    deeds = [row_deed(line, value) for value in range(base)]
    told = [deeds[value] for value in grid_of(told_expression(line), base, grids)]
    return list(zip(told, row_targets(line, row, landed, base)))
