"""Houses at the bounds of point 2 answer each question in a short time."""

import random
import time
import unittest

from callsover.alike import apart, are_alike, view
from callsover.desk import Desk
from callsover.house import House, house_of
from tests.helpers import HouseCase

BASE = 4
NAMES = [f"part{letter}" for letter in "abcdefgh"]
# Far more than each question takes, so that a slow machine does not matter.
SECONDS = 10


def said(source):
    operands = list(range(BASE)) + ["x", "y"]
    return (source.choice("+-*"), source.choice(operands), source.choice(operands))


def counting(source):
    """Calls, then says nine values in each of sixteen rounds."""
    rows = [("call", source.choice(NAMES), "x", "x")] + [("say", said(source)) for _ in range(9)]
    return tuple(rows + [("set", "x", ("+", "x", 1)), ("if", "x", 0, 13), ("go", 1), ("set", "y", ("+", "y", 1)),
                         ("if", "y", 0, 16), ("go", 1)])


def asking(source):
    """Calls, then asks, reads, writes and calls in a loop."""
    rows = [("call", source.choice(NAMES), "x", "x")]
    while len(rows) < 14:
        variable = source.choice("xy")
        rows.append(source.choice([
            ("say", said(source)), ("ask", variable), ("read", 1, variable), ("write", 0, said(source)),
            ("call", source.choice(NAMES), said(source), variable),
        ]))
    return tuple(rows + [("if", "x", "y", 16), ("go", 1)])


def silent(source):
    """Calls, then counts silently through all values of both variables, again and again."""
    rows = [("call", source.choice(NAMES), "x", "x"), ("ask", "y")] + [("set", "x", ("+", "x", 1))] * 9
    return tuple(rows + [("if", "x", source.randrange(4), 13), ("go", 2), ("set", "y", ("+", "y", 1)), ("if", "y", 0, 1),
                         ("go", 2)])


def large_history(make, seed):
    """Eight parts of sixteen rows, six runs, calls upon calls, and a new text ahead of each."""
    source = random.Random(seed)
    h = House(base=BASE)
    for name in NAMES:
        h.tell(name, make(source))
    for run in range(6):
        h.begin(source.choice(NAMES), source.randrange(BASE))
    while len(h.history()) < 199:
        run = source.choice([run for run in h.runs() if h.height(run) < 20])
        h.tell(h.deed(run)[1], make(source))
        h.step(run)
    return h.history()


class Bounds(HouseCase):
    def quickly(self, function, *args):
        start = time.perf_counter()
        found = function(*args)
        self.assertLess(time.perf_counter() - start, SECONDS, function)
        return found

    def test_each_question(self):
        for make in (counting, asking, silent):
            history = large_history(make, 1)
            h = self.quickly(lambda: house_of(history, base=BASE))
            self.assertEqual((len(h.names()), len(h.runs()), len(h.history())), (8, 6, 200))
            self.assertGreater(max(h.height(run) for run in h.runs()), 15)
            calls = [(run, depth) for run in h.runs() for depth in range(1, h.height(run) + 1)]
            self.quickly(h.kept)
            self.quickly(lambda: [h.standing(run) for run in h.runs()])
            for method in (h.results, h.latest, h.ring):
                self.quickly(lambda: [method(*call) for call in calls])
            self.assertEqual(len(self.quickly(h.preview, "parta", ())), len(calls))
            self.quickly(lambda: (str(h), repr(h), len(h), view(h), h.twin()))
            twin = self.quickly(h.twin)
            self.assertTrue(self.quickly(are_alike, h, twin))
            self.assertIsNone(self.quickly(apart, h, twin))
            self.quickly(lambda: twin == h)

    def test_a_difference_far_down(self):
        for make in (counting, asking):
            history = large_history(make, 2)
            one = house_of(history, base=BASE)
            for at in (20, 60, 120, 180):
                word, name, text = next(deed for deed in history[at:] if deed[0] == "tell")
                spoiled = text[:9] + (("say", 3) if text[9] != ("say", 3) else ("say", 1),) + text[10:]
                changed = [(word, name, spoiled) if deed == (word, name, text) else deed for deed in history]
                other = house_of(changed, base=BASE)
                found = self.quickly(apart, one, other)
                self.assertEqual(found is None, self.quickly(are_alike, one, other))
                if found is not None:
                    twins = (one.twin(), other.twin())
                    for twin in twins:
                        self.quickly(twin.play, found)
                    self.assertNotEqual(view(twins[0]), view(twins[1]))

    def test_twenty_open_calls_of_one_run(self):
        h = House(base=BASE)
        h.tell("f", (("call", "f", ("+", "x", 1), "y"), ("end", ("+", "y", 1))))
        h.begin("f")
        for _ in range(19):
            h.step(0)
        h.tell("f", (("ask", "x"), ("end", "x")))
        h.step(0)
        self.assertEqual(h.height(0), 21)
        for depth in range(1, 22):
            self.assert_same(h.results(0, depth), [0, 1, 2, 3])
        h.step(0, answer=1)
        for depth in range(1, 22):
            self.assert_same(h.results(0, depth), [(1 + 21 - depth) % 4])

    def test_the_desk(self):
        desk = Desk(base=BASE)
        for deed in large_history(asking, 3):
            if deed[0] == "tell":
                rows = [" ".join(f"{i[1]}{i[0]}{i[2]}" if isinstance(i, tuple) else str(i) for i in row) for row in deed[2]]
                self.assertEqual(desk.say(f"tell {deed[1]} {' / '.join(rows)}"), "ok")
            else:
                desk.say(" ".join(str(item) for item in deed if item is not None))
        self.assertEqual(len(desk.house().history()), 200)
        for command in ("kept", "standing 0", "latest 0 1", "tape 5", "names", "runs"):
            self.quickly(desk.say, command)


if __name__ == "__main__":
    unittest.main()
