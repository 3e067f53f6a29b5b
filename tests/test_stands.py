"""Points 7, 8 and 9: stands, deeds, branches and walking."""

import itertools
import random
import unittest

from callsover.errors import NoBranch, NoStand
from callsover.stands import MUTE, branch_count, deed_of, first_stand, stands_of, walk
from tests.helpers import (
    BASES, ODD_VALUES, Case, same, slow_deed, slow_settle, slow_stands, slow_targets, slow_walk, some_texts,
)

ECHO = (("ask", "x"), ("say", "x"))

# One row of each kind that is not silent, with the deed at (row, x, y).
DEEDS = (
    (("say", ("+", "x", "y")), lambda x, y, b: ("say", (x + y) % b)),
    (("say", ("-", "x", "y")), lambda x, y, b: ("say", (x - y) % b)),
    (("say", ("*", "x", "y")), lambda x, y, b: ("say", (x * y) % b)),
    (("say", "y"), lambda x, y, b: ("say", y)),
    (("say", 1), lambda x, y, b: ("say", 1)),
    (("ask", "x"), lambda x, y, b: ("ask",)),
    (("ask", "y"), lambda x, y, b: ("ask",)),
    (("read", 0, "x"), lambda x, y, b: ("read", 0)),
    (("read", 1, "y"), lambda x, y, b: ("read", 1)),
    (("write", 0, ("-", "y", 1)), lambda x, y, b: ("write", 0, (y - 1) % b)),
    (("write", 1, "x"), lambda x, y, b: ("write", 1, x)),
    (("call", "f", ("+", 1, "x"), "y"), lambda x, y, b: ("call", "f", (1 + x) % b)),
    (("call", "abcdefgh", "y", "x"), lambda x, y, b: ("call", "abcdefgh", y)),
    (("end", ("-", 0, "x")), lambda x, y, b: ("end", -x % b)),
    (("end", "y"), lambda x, y, b: ("end", y)),
)


class FirstStand(Case):
    def test_example_and_the_default_base(self):
        self.assert_same(first_stand((("set", "y", 2), ("say", "y")), 1), (1, 1, 2))
        self.assert_same(first_stand((("set", "x", ("+", "x", 1)),), 2), (1, 0, 0))
        self.assert_same(first_stand((("set", "x", ("+", "x", 1)),), 2, base=4), (1, 3, 0))

    def test_x_is_the_argument_and_y_is_0(self):
        for base in BASES:
            for argument in range(base):
                for text in ((), (("say", 0),), ECHO):
                    self.assert_same(first_stand(text, argument, base=base), (0, argument, 0))

    def test_silent_rows(self):
        for base in BASES:
            for argument in range(base):
                def first(*rows):
                    return first_stand(rows, argument, base=base)
                self.assert_same(first(("set", "y", "x")), (1, argument, argument))
                self.assert_same(first(("set", "x", "y")), (1, 0, 0))
                self.assert_same(first(("set", "x", 1), ("set", "y", "x")), (2, 1, 1))
                self.assert_same(first(("set", "y", ("-", "y", "x"))), (1, argument, -argument % base))
                self.assert_same(first(("set", "y", ("-", 1, "x"))), (1, argument, (1 - argument) % base))
                self.assert_same(first(("set", "x", ("*", "x", "x"))), (1, argument * argument % base, 0))
                self.assert_same(first(("set", "x", ("+", "x", "x"))), (1, 2 * argument % base, 0))
                self.assert_same(first(("go", 2), ("say", 0), ("say", 1)), (2, argument, 0))
                self.assert_same(first(("go", 2), ("say", 0)), (2, argument, 0))
                self.assert_same(first(("go", 1), ("say", 0)), (1, argument, 0))
                self.assert_same(first(("if", "x", "y", 2), ("say", 0)), (2 if argument == 0 else 1, argument, 0))
                self.assert_same(first(("if", 1, "x", 2), ("say", 0)), (2 if argument == 1 else 1, argument, 0))
                self.assert_same(first(("if", 1, 1, 2), ("say", 0)), (2, argument, 0))
                self.assert_same(first(("if", 1, 0, 2), ("say", 0)), (1, argument, 0))

    def test_silent_rows_that_never_end(self):
        for base in BASES:
            for argument in range(base):
                for text in ((("go", 0),), (("go", 1), ("go", 0)), (("if", 0, 0, 0),), (("if", "x", "x", 0), ("say", 1)),
                             (("set", "x", ("+", "x", 1)), ("go", 0)), (("go", 1), ("set", "y", ("-", "y", 1)), ("go", 1)),
                             (("set", "x", ("+", "x", 1)), ("set", "y", ("+", "y", "x")), ("go", 0))):
                    self.assert_same(first_stand(text, argument, base=base), (-1, 0, 0))

    def test_only_some_arguments_end(self):
        text = (("if", "x", 1, 0), ("say", "x"))
        self.assert_same([first_stand(text, x) for x in range(3)], [(1, 0, 0), MUTE, (1, 2, 0)])

    def test_a_ring_that_is_left_after_many_rounds(self):
        # x counts up to its greatest number, y counts the rounds of x, and only then is the ring left.
        for base in BASES:
            text = (("if", "x", base - 1, 3), ("set", "x", ("+", "x", 1)), ("go", 0),
                    ("if", "y", base - 1, 7), ("set", "y", ("+", "y", 1)), ("set", "x", 0), ("go", 0), ("say", "y"))
            for argument in range(base):
                self.assert_same(first_stand(text, argument, base=base), (7, base - 1, base - 1))

    def test_the_longest_silent_way(self):
        # Fourteen silent rows ahead of the turn, and each pair of values is met before the end.
        for base in BASES:
            rows = [("set", "x", ("+", "x", 1))] + [("go", at + 1) for at in range(1, 11)]
            rows += [("if", "x", 0, 13), ("go", 0), ("set", "y", ("+", "y", 1)), ("if", "y", 0, 16), ("go", 0)]
            self.assertEqual(len(rows), 16)
            for argument in range(base):
                self.assert_same(first_stand(tuple(rows), argument, base=base), (16, 0, 0))

    def test_like_the_slow_way(self):
        for base in BASES:
            for text in some_texts(300, base, most=8):
                for argument in range(base):
                    wanted = slow_settle(text, 0, argument, 0, base)
                    self.assert_same(first_stand(text, argument, base=base), wanted, text)


class StandsOf(Case):
    def test_mute(self):
        self.assert_same(MUTE, (-1, 0, 0))

    def test_the_default_base_and_small_texts(self):
        nine = [(0, 0, 0), (0, 0, 1), (0, 0, 2), (0, 1, 0), (0, 1, 1), (0, 1, 2), (0, 2, 0), (0, 2, 1), (0, 2, 2)]
        self.assert_same(stands_of(()), nine)
        self.assert_same(stands_of((), base=2), [(0, 0, 0), (0, 0, 1), (0, 1, 0), (0, 1, 1)])
        self.assert_same(stands_of((("go", 0),), base=2), [(1, 0, 0), (1, 0, 1), (1, 1, 0), (1, 1, 1)])
        self.assert_same(stands_of((("say", 0), ("set", "x", 1)), base=2),
                         [(0, 0, 0), (0, 0, 1), (0, 1, 0), (0, 1, 1), (2, 0, 0), (2, 0, 1), (2, 1, 0), (2, 1, 1)])

    def test_complete_and_ascending_without_mute(self):
        for base in BASES:
            for text in some_texts(100, base, most=16):
                found = stands_of(text, base=base)
                self.assert_same(found, slow_stands(text, base))
                self.assertEqual(found, sorted(set(found)))
                self.assertNotIn(MUTE, found)

    def test_rows_that_no_call_comes_to(self):
        self.assertIn((1, 2, 2), stands_of((("end", 0), ("say", 1))))


class DeedOf(Case):
    def test_example_and_the_default_base(self):
        self.assert_same(deed_of((("say", ("+", "x", "y")),), (0, 2, 2)), ("say", 1))
        self.assert_same(deed_of((("say", ("+", "x", "y")),), (0, 2, 2), base=4), ("say", 0))

    def test_each_kind_of_row_at_every_stand(self):
        for base in BASES:
            text = tuple(row for row, _ in DEEDS)
            for row, (_, wanted) in enumerate(DEEDS):
                for x, y in itertools.product(range(base), repeat=2):
                    self.assert_same(deed_of(text, (row, x, y), base=base), wanted(x, y, base))

    def test_the_end_of_the_text(self):
        for base in BASES:
            for text in ((), ECHO, (("go", 0),), (("say", 1),) * 16):
                for x, y in itertools.product(range(base), repeat=2):
                    self.assert_same(deed_of(text, (len(text), x, y), base=base), ("end", 0))

    def test_mute(self):
        for base in BASES:
            for text in ((), ECHO, (("go", 0),), (("say", 1),) * 16):
                self.assert_same(deed_of(text, MUTE, base=base), ("mute",))
                self.assert_same(deed_of(text, (-1, 0, 0), base=base), ("mute",))

    def test_like_the_slow_way(self):
        for base in BASES:
            for text in some_texts(100, base):
                for stand in stands_of(text, base=base):
                    self.assert_same(deed_of(text, stand, base=base), slow_deed(text, stand, base))


def no_stands(text, base):
    """Values that are no stands of the text, many of them nearly."""
    good = slow_stands(text, base) + [(-1, 0, 0)]
    rows, numbers = range(-3, len(text) + 3), range(-2, base + 2)
    near = list(itertools.product(rows, numbers, numbers))
    near += [(True, 0, 0), (False, 0, 0), (0, True, 0), (0, 0, True), (0, False, 0), (0, 0, False),
             (1, True, 1), (1, 1, True), (-1, False, 0), (-1, 0, False), (-1, False, False), (True, True, True)]
    near += [list(stand) for stand in good] + [stand[:2] for stand in good] + [stand + (0,) for stand in good]
    near += [(str(row), x, y) for row, x, y in good] + [(stand,) for stand in good] + [[stand] for stand in good]
    near += [(10 ** 59, 0, 0), (0, 10 ** 59, 0), (0, 0, -(10 ** 59))]
    near += list(ODD_VALUES)
    return [thing for thing in near if not any(same(thing, stand) for stand in good)]


TEXTS = ((), (("say", "x"),), (("go", 0),), (("set", "x", 1), ("ask", "x"), ("if", "x", 0, 0), ("end", "y")))


class NoStands(Case):
    def test_deed_of(self):
        for base, text in itertools.product(BASES, TEXTS):
            for thing in no_stands(text, base):
                self.assert_raises(NoStand, {}, deed_of, text, thing, base=base)

    def test_silent_rows_have_no_stand(self):
        for row in (("set", "x", 1), ("if", "x", 0, 0), ("go", 0)):
            self.assert_raises(NoStand, {}, deed_of, (row, ("say", 1)), (0, 0, 0))
            self.assert_same(deed_of((row, ("say", 1)), (1, 0, 0)), ("say", 1))

    def test_walk_ahead_of_no_branch(self):
        for base, text in itertools.product(BASES, TEXTS):
            for thing in no_stands(text, base):
                for path in ([], [0], (), (7,), [None], [True]):
                    self.assert_raises(NoStand, {}, walk, text, thing, path, base=base)


class BranchCount(Case):
    def test_each_kind_of_deed(self):
        for base in BASES:
            for deed in (("ask",), ("read", 0), ("read", 1), ("call", "f", 0), ("call", "say", 1), ("call", "end", 0)):
                self.assert_same(branch_count(deed, base=base), base)
            for deed in (("say", 0), ("say", 1), ("write", 0, 1), ("write", 1, 0)):
                self.assert_same(branch_count(deed, base=base), 1)
            for deed in (("end", 0), ("end", 1), ("mute",)):
                self.assert_same(branch_count(deed, base=base), 0)

    def test_the_default_base(self):
        self.assert_same([branch_count(d) for d in (("ask",), ("say", 2), ("mute",))], [3, 1, 0])


class Walk(Case):
    def test_examples_and_the_default_base(self):
        self.assert_same(walk(ECHO, (0, 0, 0), [2, 0]), [(0, 0, 0), (1, 2, 0), (2, 2, 0)])
        self.assert_raises(NoBranch, {"at": 1}, walk, ECHO, (0, 0, 0), [2, 1])
        self.assert_raises(NoBranch, {"at": 0}, walk, ECHO, (0, 0, 0), [3])
        self.assert_same(walk(ECHO, (0, 0, 0), [3], base=4), [(0, 0, 0), (1, 3, 0)])

    def test_the_empty_path(self):
        for base in BASES:
            for stand in stands_of(ECHO, base=base) + [MUTE]:
                self.assert_same(walk(ECHO, stand, [], base=base), [stand])
                self.assert_same(walk(ECHO, stand, (), base=base), [stand])

    def test_the_received_number_is_assigned(self):
        for base in BASES:
            for row, at in ((("ask", "x"), 1), (("ask", "y"), 2), (("read", 1, "x"), 1), (("read", 0, "y"), 2),
                            (("call", "f", 0, "x"), 1), (("call", "y", "x", "y"), 2), (("call", "x", "x", "y"), 2)):
                for x, y, number in itertools.product(range(base), repeat=3):
                    wanted = [1, x, y]
                    wanted[at] = number
                    self.assert_same(walk((row,), (0, x, y), [number], base=base), [(0, x, y), tuple(wanted)])

    def test_say_and_write_go_to_the_next_row(self):
        for row in (("say", "x"), ("write", 1, ("+", "x", 1))):
            self.assert_same(walk((row,), (0, 1, 2), [0]), [(0, 1, 2), (1, 1, 2)])

    def test_silent_rows_are_executed_on_the_way(self):
        text = (("ask", "x"), ("if", "x", 1, 3), ("go", 0), ("set", "y", "x"), ("say", "y"), ("go", 5), ("go", 5))
        self.assert_same(walk(text, (0, 0, 0), [0, 2, 1, 0]), [(0, 0, 0), (0, 0, 0), (0, 2, 0), (4, 1, 1), MUTE])
        self.assert_raises(NoBranch, {"at": 4}, walk, text, (0, 0, 0), [0, 2, 1, 0, 0])

    def test_a_walk_begins_where_no_call_comes(self):
        self.assert_same(walk((("end", 0), ("say", "y")), (1, 2, 1), [0]), [(1, 2, 1), (2, 2, 1)])

    def test_what_is_no_branch(self):
        for base in BASES:
            text = (("ask", "x"), ("ask", "y"), ("say", 0), ("write", 0, 0), ("end", 0))
            bad = [-1, base, base + 1, True, False, 10 ** 59, "0", None, [], [0], (), (0,)] + list(ODD_VALUES)
            for value in bad:
                if not (type(value) is int and 0 <= value < base):
                    self.assert_raises(NoBranch, {"at": 0}, walk, text, (0, 0, 0), [value, 99], base=base)
                    self.assert_raises(NoBranch, {"at": 1}, walk, text, (0, 0, 0), (base - 1, value, value), base=base)
                if not same(value, 0):
                    self.assert_raises(NoBranch, {"at": 2}, walk, text, (0, 0, 0), [0, 1, value], base=base)
                    self.assert_raises(NoBranch, {"at": 3}, walk, text, (0, 0, 0), (1, 0, 0, value), base=base)
                self.assert_raises(NoBranch, {"at": 4}, walk, text, (0, 0, 0), [1, 1, 0, 0, value], base=base)
                self.assert_raises(NoBranch, {"at": 0}, walk, text, MUTE, [value], base=base)
                self.assert_raises(NoBranch, {"at": 0}, walk, text, (5, 1, 1), [value, 0], base=base)

    def test_truth_values_are_no_branches(self):
        self.assert_raises(NoBranch, {"at": 0}, walk, ECHO, (0, 0, 0), [True, 0])
        self.assert_raises(NoBranch, {"at": 1}, walk, ECHO, (0, 0, 0), [1, False])

    def test_long_paths(self):
        text = (("ask", "x"), ("go", 0))
        stands = walk(text, (0, 0, 0), [1, 2] * 10000)
        self.assert_same(stands, [(0, 0, 0)] + [(0, 1, 0), (0, 2, 0)] * 10000)
        self.assert_raises(NoBranch, {"at": 20000}, walk, text, (0, 0, 0), [1, 2] * 10000 + [3])

    def test_like_the_slow_way(self):
        source = random.Random(7)
        for base in BASES:
            for text in some_texts(100, base, seed=7):
                for stand in stands_of(text, base=base)[::5] + [MUTE]:
                    path, wanted = [], [stand]
                    while len(path) < 8 and slow_targets(text, wanted[-1], base):
                        path.append(source.randrange(len(slow_targets(text, wanted[-1], base))))
                        wanted.append(slow_walk(text, stand, path, base))
                    self.assert_same(walk(text, stand, path, base=base), wanted)
                    count = len(slow_targets(text, wanted[-1], base))
                    self.assert_raises(NoBranch, {"at": len(path)}, walk, text, stand, path + [count], base=base)


if __name__ == "__main__":
    unittest.main()
