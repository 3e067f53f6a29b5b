"""What the tests share: sameness, odd values, texts, and a slow second way to compute."""

import itertools
import random
import unittest

BASES = (2, 3, 4)

# Values of every kind that "any value" may be, and a few beyond.
ODD_VALUES = (
    None, True, False, 0, 1, 2, -1, -2, 10 ** 59, -(10 ** 59), "", "x", "say 1", "alike", "apart",
    [], [0, 0, 0], [[0, 0, 0]], (), (0,), (0, 0), (0, 0, 0, 0), ((),), ((0, 0, 0),), (None,) * 3,
    ("0", "0", "0"), ([0], [0], [0]), ([], 0, 0), (0, [], 0), (0, 0, []), (0, 0, None), (0, "x", 0),
    (((((((((((("deep",),),),),),),),),),),),), [[[[[[[[[[[["deep"]]]]]]]]]]]],
    b"say 1", {}, {"say": 1}, 1.5,
)


def same(one, other):
    """Equal, and of the same kinds down to the innermost part."""
    if type(one) is not type(other):
        return False
    if isinstance(one, (list, tuple)):
        return len(one) == len(other) and all(same(a, b) for a, b in zip(one, other))
    return one == other


class Case(unittest.TestCase):
    def assert_same(self, got, wanted, told=None):
        self.assertTrue(same(got, wanted), f"{got!r} is not the same as {wanted!r}: {told!r}")

    def assert_raises(self, error, fields, function, *args, **more):
        """The very class is raised, with these values in its fields."""
        with self.assertRaises(error, msg=repr((args, more))) as caught:
            function(*args, **more)
        self.assertIs(type(caught.exception), error)
        for name, value in fields.items():
            self.assert_same(getattr(caught.exception, name), value, (args, more))


def expressions(base):
    operands = list(range(base)) + ["x", "y"]
    pairs = list(itertools.product(operands, operands))
    return operands + [(sign, left, right) for sign in "+-*" for left, right in pairs]


def good_items(kind, base, rows):
    """All items of a kind, of the names a few."""
    if kind == "V":
        return ["x", "y"]
    if kind == "C":
        return [0, 1]
    if kind == "N":
        return ["a", "z", "x", "say", "abcdefgh", "zzzzzzzz"]
    if kind == "R":
        return list(range(rows + 1))
    return expressions(base)


# The nine forms as point 5 lists them.
FORMS = (
    ("set", "V", "E"), ("if", "E", "E", "R"), ("go", "R"), ("say", "E"), ("ask", "V"),
    ("read", "C", "V"), ("write", "C", "E"), ("call", "N", "E", "V"), ("end", "E"),
)


def rows_of_form(form, base, rows):
    """All rows of a form, where one item varies at a time."""
    columns = [good_items(kind, base, rows) for kind in form[1:]]
    for at, column in enumerate(columns):
        for item in column:
            row = [form[0]] + [other[0] for other in columns]
            row[at + 1] = item
            yield tuple(row)


def some_text(source, base, rows):
    """A text by chance; loops and equal rows are frequent."""
    def item(kind):
        return source.choice(good_items(kind, base, rows)[:30] if kind != "N" else ["f", "g"])
    return tuple(
        tuple([form[0]] + [item(kind) for kind in form[1:]])
        for form in (source.choice(FORMS) for _ in range(rows))
    )


def some_texts(count, base, most=6, seed=0):
    source = random.Random(1000 * seed + base)
    return [some_text(source, base, source.randint(0, most)) for _ in range(count)]


def with_idle_rows(text):
    """A text that does the same: an idle row ahead of each row, and a dead row at the end."""
    rows = []
    for at, row in enumerate(text):
        rows.append(("go", 2 * at + 1))
        if row[0] in ("go", "if"):
            row = row[:-1] + (2 * row[-1],)
        rows.append(row)
    return tuple(rows) + (("end", 0), ("say", 1))


# The slow second way: everything straight from the words of the document.

def slow_value(expression, x, y, base):
    if isinstance(expression, tuple):
        sign, left, right = expression
        one, other = slow_value(left, x, y, base), slow_value(right, x, y, base)
        return {"+": one + other, "-": one - other, "*": one * other}[sign] % base
    return {"x": x, "y": y}.get(expression, expression)


def slow_settle(text, row, x, y, base):
    for _ in range(len(text) * base * base + 1):
        line = text[row] if row < len(text) else ("end", 0)
        if line[0] == "set":
            value = slow_value(line[2], x, y, base)
            x, y = (value, y) if line[1] == "x" else (x, value)
            row += 1
        elif line[0] == "go":
            row = line[1]
        elif line[0] == "if":
            equal = slow_value(line[1], x, y, base) == slow_value(line[2], x, y, base)
            row = line[3] if equal else row + 1
        else:
            return (row, x, y)
    return (-1, 0, 0)


def slow_stands(text, base):
    rows = [at for at, row in enumerate(text) if row[0] not in ("set", "if", "go")] + [len(text)]
    return [(row, x, y) for row in rows for x in range(base) for y in range(base)]


def slow_deed(text, stand, base):
    row, x, y = stand
    if row == -1:
        return ("mute",)
    line = text[row] if row < len(text) else ("end", 0)
    word = line[0]
    if word == "ask":
        return ("ask",)
    if word == "read":
        return ("read", line[1])
    if word in ("say", "end"):
        return (word, slow_value(line[1], x, y, base))
    return (word, line[1], slow_value(line[2], x, y, base))


def slow_targets(text, stand, base):
    row, x, y = stand
    word = slow_deed(text, stand, base)[0]
    if word in ("end", "mute"):
        return []
    if word in ("say", "write"):
        return [slow_settle(text, row + 1, x, y, base)]
    variable = {"ask": 1, "read": 2, "call": 3}[word]
    if text[row][variable] == "x":
        return [slow_settle(text, row + 1, number, y, base) for number in range(base)]
    return [slow_settle(text, row + 1, x, number, base) for number in range(base)]


def slow_walk(text, stand, path, base):
    """The stand that a path leads to, None if it cannot be walked."""
    for branch in path:
        targets = slow_targets(text, stand, base)
        if branch >= len(targets):
            return None
        stand = targets[branch]
    return stand


def slow_reach(text, stand, base):
    """All stands that can be walked to."""
    reached = [stand]
    for here in reached:
        reached.extend(t for t in dict.fromkeys(slow_targets(text, here, base)) if t not in reached)
    return reached


def slow_classes(texts, base):
    """A dict from (number of the text, stand) to a number, equal for alike stands.

    Round n tells apart what a path of at most n branches tells apart; where a round
    tells no more than the one ahead of it, no longer path does.
    """
    stands = [(at, s) for at, text in enumerate(texts) for s in slow_stands(text, base) + [(-1, 0, 0)]]
    deeds = {(at, s): slow_deed(texts[at], s, base) for at, s in stands}
    ways = {(at, s): [(at, t) for t in slow_targets(texts[at], s, base)] for at, s in stands}
    classes = {key: 0 for key in stands}
    count = 0
    while count < len(set(classes.values())):
        count = len(set(classes.values()))
        marks = {key: (deeds[key], tuple(classes[t] for t in ways[key])) for key in stands}
        numbers = {mark: at for at, mark in enumerate(dict.fromkeys(marks.values()))}
        classes = {key: numbers[marks[key]] for key in stands}
    return classes


def slow_parting(text, stand, other_text, other_stand, base, longest):
    """The first path that parts, None if there is none of at most this length."""
    for length in range(longest + 1):
        for path in itertools.product(range(base), repeat=length):
            one = slow_walk(text, stand, path, base)
            other = slow_walk(other_text, other_stand, path, base)
            if one is None or other is None:
                continue
            if slow_deed(text, one, base) != slow_deed(other_text, other, base):
                return list(path)
    return None


def snapshot(house):
    """All that can be asked of a house."""
    runs = house.runs()
    calls = [(run, depth) for run in runs for depth in range(1, house.height(run) + 1)]
    began = len([deed for deed in house.history() if deed[0] == "begin"])
    return (
        house.history(), house.names(), [house.text(name) for name in house.names()], house.cells(), runs,
        [(house.deed(run), house.height(run), house.standing(run)) for run in runs], house.kept(),
        [(house.result(run), house.tape(run)) for run in range(began)],
        [(house.results(*call), house.latest(*call), house.ring(*call)) for call in calls],
        str(house), repr(house), len(house),
    )


class HouseCase(Case):
    def assert_unchanged(self, house, error, fields, method, *args, **more):
        """The method raises the error, and nothing has changed."""
        before = snapshot(house)
        self.assert_raises(error, fields, getattr(house, method), *args, **more)
        self.assert_same(snapshot(house), before, (method, args, more))
