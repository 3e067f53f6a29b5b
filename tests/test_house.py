"""Points 14 to 17 and callsover/house.py: parts, runs, steps and tapes, and what is refused."""

import unittest

from callsover.errors import NoAnswer, NoBase, NoCell, NoDepth, NoName, NoNumber, NoPart, NoRows, NoRun, NotAsked, Over
from callsover.house import House, house_of
from tests.helpers import BASES, ODD_VALUES, HouseCase, snapshot
from tests.stories import SlowHouse, some_history

ASK = (("ask", "x"), ("say", "x"), ("end", "x"))
WRONG_NAMES = ODD_VALUES[:12] + ("F", "f1", "", "abcdefghi", "f g", "f\n", " f", ["f"], ("f",), b"f", {}, 1.5)
NOT_NAMES = tuple(name for name in WRONG_NAMES if name != "x")
WRONG_TEXTS = (
    None, True, 0, "", "say 1", [], [("say", 1)], (("say",),), (["say", 1],), (("say", True),), (("say", 4),),
    (("go", 2),), (("go", True),), (("ask", "z"),), (("end", 0),) * 17, ((),), (None,), (("read", 2, "x"),),
    (("call", "F", 0, "x"),), (("say", -1),), (("say", ["+", 0, 0]),), {}, (("set", ["x"], 0),), ([],), (([],),),
)


def wrong_numbers(base):
    return (True, False, -1, base, base + 1, 10 ** 59, "0", "", [], [0], (), (0,), b"0", 1.5, [[0]])


def wrong_runs(began):
    return (None, True, False, -1, began, 10 ** 59, "0", [], [0], (0,), {}, 1.5)


class Example(HouseCase):
    def test_the_long_example(self):
        h = House(base=2)
        self.assert_same(h.tell("f", (("ask", "x"), ("say", "x"), ("end", 0))), None)
        self.assert_same(h.begin("f"), 0)
        h.tell("f", (("ask", "x"), ("say", 0), ("end", 0)))
        self.assert_same(h.standing(0), [("kept", 0)])
        self.assert_same(h.kept(), [
            (("ask",), (("new", "f", 1, 0, 0), ("kept", 1))), (("say", 1), (("new", "f", 2, 0, 0),)),
        ])
        self.assert_same(h.latest(0, 1), 2)
        self.assert_same(h.step(0, answer=0), ("ask", 0))
        self.assert_same(h.standing(0), [("new", "f", 1, 0, 0)])
        self.assert_same(h.kept(), [])

    def test_the_default_base_is_3(self):
        for house in (House(), house_of([])):
            self.assert_same(repr(house), "House(base=3, 0 parts, 0 runs)")
            house.tell("f", (("say", 2),))
            self.assert_raises(NoRows, {}, house.tell, "f", (("say", 3),))

    def test_the_default_argument_is_0_and_the_default_answer_none(self):
        for base in BASES:
            h = House(base=base)
            h.tell("f", (("end", ("+", "x", 1)),))
            self.assert_same([h.begin("f"), h.begin("f", 1), h.begin(name="f", argument=0)], [0, 1, 2])
            self.assert_same([h.step(0), h.step(1, answer=None), h.step(run=2)],
                             [("end", 1), ("end", 2 % base), ("end", 1)])
            self.assert_same(h.history()[1:], [
                ("begin", "f", 0), ("begin", "f", 1), ("begin", "f", 0), ("step", 0, None), ("step", 1, None),
                ("step", 2, None),
            ])


class Made(HouseCase):
    def test_a_new_house(self):
        for base in BASES:
            h = House(base=base)
            self.assert_same((h.names(), h.runs(), h.cells(), h.history(), h.kept()), ([], [], (0, 0), [], []))
            self.assert_same((str(h), len(h), bool(h)), ("none", 0, False))
            self.assert_same(repr(h), f"House(base={base}, 0 parts, 0 runs)")

    def test_no_base(self):
        for base in (0, 1, 5, -2, True, False, None, "3", [3], (3,), [], {}, 2.0, 10 ** 59, [[], (2,)]):
            self.assert_raises(NoBase, {"base": base}, House, base=base)
            self.assert_raises(NoBase, {"base": base}, house_of, [], base=base)
            self.assert_raises(NoBase, {"base": base}, house_of, "no history", base=base)

    def test_told_replaced_and_dropped(self):
        for base in BASES:
            h = House(base=base)
            for name in ("z", "a", "abcdefgh", "b"):
                self.assert_same(h.tell(name, ()), None)
            self.assert_same(h.names(), ["a", "abcdefgh", "b", "z"])
            h.tell("b", ASK)
            self.assert_same((h.text("a"), h.text("b")), ((), ASK))
            self.assert_same(h.drop("a"), None)
            self.assert_same(h.names(), ["abcdefgh", "b", "z"])
            self.assert_unchanged(h, NoPart, {"name": "a"}, "text", "a")
            self.assert_unchanged(h, NoPart, {"name": "a"}, "drop", "a")
            self.assert_unchanged(h, NoPart, {"name": "a"}, "begin", "a")
            h.tell("a", ASK)
            self.assert_same(h.text("a"), ASK)
            self.assert_same(repr(h), f"House(base={base}, 4 parts, 0 runs)")
            self.assert_same(h.history(), [("tell", n, ()) for n in ("z", "a", "abcdefgh", "b")] +
                             [("tell", "b", ASK), ("drop", "a"), ("tell", "a", ASK)])


class Refused(HouseCase):
    def a_house(self, base):
        """Run 0 is over, run 1 stopped, run 2 asks, run 3 says upon another call."""
        h = House(base=base)
        h.tell("f", (("end", 1),))
        h.tell("g", ASK)
        h.tell("h", (("call", "i", 0, "x"), ("end", 0)))
        h.tell("i", (("say", 1),))
        h.play([("begin", "f", 0), ("begin", "g", 0), ("begin", "g", 1), ("begin", "h", 0), ("step", 0, None),
                ("stop", 1), ("step", 3, None)])
        return h

    def each(self):
        for base in BASES:
            yield base, self.a_house(base)

    def test_tell_and_preview(self):
        for base, h in self.each():
            for method in ("tell", "preview"):
                for name in NOT_NAMES:
                    self.assert_unchanged(h, NoName, {"name": name}, method, name, ())
                    self.assert_unchanged(h, NoName, {"name": name}, method, name, None)
                for text in WRONG_TEXTS:
                    self.assert_unchanged(h, NoRows, {}, method, "f", text)
                    self.assert_unchanged(h, NoRows, {}, method, "new", text)
                self.assert_unchanged(h, NoRows, {}, method, "f", (("say", base),))

    def test_names_that_are_no_parts(self):
        for base, h in self.each():
            for name in NOT_NAMES + ("x", "new"):
                for method in ("drop", "text", "begin"):
                    self.assert_unchanged(h, NoPart, {"name": name}, method, name)
                self.assert_unchanged(h, NoPart, {"name": name}, "begin", name, True)

    def test_numbers(self):
        for base, h in self.each():
            for number in wrong_numbers(base):
                self.assert_unchanged(h, NoNumber, {"number": number}, "begin", "f", number)
                self.assert_unchanged(h, NoNumber, {"number": number}, "put", 0, number)
                self.assert_unchanged(h, NoNumber, {"number": number}, "step", 2, answer=number)
            self.assert_unchanged(h, NoNumber, {"number": None}, "begin", "f", None)
            self.assert_unchanged(h, NoNumber, {"number": None}, "put", 1, None)

    def test_cells(self):
        for base, h in self.each():
            for cell in (None, True, False, -1, 2, "0", [0], (0,), 10 ** 59, {}, 1.5):
                self.assert_unchanged(h, NoCell, {"cell": cell}, "put", cell, 0)
                self.assert_unchanged(h, NoCell, {"cell": cell}, "put", cell, True)

    def test_runs(self):
        for base, h in self.each():
            for run in wrong_runs(4):
                for method in ("step", "stop", "deed", "height", "result", "tape", "standing"):
                    self.assert_unchanged(h, NoRun, {"run": run}, method, run)
                self.assert_unchanged(h, NoRun, {"run": run}, "step", run, answer=True)
                for method in ("results", "latest", "ring"):
                    self.assert_unchanged(h, NoRun, {"run": run}, method, run, 1)
                    self.assert_unchanged(h, NoRun, {"run": run}, method, run, None)

    def test_runs_that_are_over(self):
        for base, h in self.each():
            for run in (0, 1):
                for method in ("step", "stop", "deed", "height", "standing"):
                    self.assert_unchanged(h, Over, {"run": run}, method, run)
                self.assert_unchanged(h, Over, {"run": run}, "step", run, answer=[])
                for method in ("results", "latest", "ring"):
                    for depth in (0, 1, None):
                        self.assert_unchanged(h, Over, {"run": run}, method, run, depth)

    def test_answers(self):
        for base, h in self.each():
            self.assert_unchanged(h, NoAnswer, {"run": 2}, "step", 2)
            self.assert_unchanged(h, NoAnswer, {"run": 2}, "step", 2, answer=None)
            for answer in wrong_numbers(base) + (0, 1):
                self.assert_unchanged(h, NotAsked, {"run": 3}, "step", 3, answer=answer)

    def test_depths(self):
        for base, h in self.each():
            for method in ("results", "latest", "ring"):
                for depth in (None, True, False, 0, -1, 3, "1", [1], (1,), 10 ** 59, {}, 1.5):
                    self.assert_unchanged(h, NoDepth, {"depth": depth}, method, 3, depth)
                self.assert_unchanged(h, NoDepth, {"depth": 2}, method, 2, 2)

    def test_a_list_in_an_error_is_a_copy(self):
        h = self.a_house(3)
        calls = (
            (lambda wrong: h.drop(wrong), "name"), (lambda wrong: h.tell(wrong, ()), "name"),
            (lambda wrong: h.begin("f", wrong), "number"), (lambda wrong: h.deed(wrong), "run"),
            (lambda wrong: h.put(wrong, 0), "cell"), (lambda wrong: h.ring(2, wrong), "depth"),
            (lambda wrong: House(base=wrong), "base"),
        )
        for call, field in calls:
            wrong = [["f"], (["g"],)]
            with self.assertRaises((ValueError, LookupError)) as caught:
                call(wrong)
            wrong[0].append(1)
            wrong[1][0].append(1)
            self.assert_same(getattr(caught.exception, field), [["f"], (["g"],)], field)


class Steps(HouseCase):
    def test_each_event(self):
        text = (("say", ("+", "x", 1)), ("ask", "y"), ("read", 1, "x"), ("write", 0, ("+", "x", "y")),
                ("call", "g", "x", "y"), ("say", "y"), ("end", ("*", "y", "y")))
        for base in BASES:
            h = House(base=base)
            h.tell("f", text)
            h.tell("g", (("write", 1, "x"), ("end", 1)))
            h.put(1, 1)
            h.begin("f", 1)
            wanted = [
                (1, ("say", 2 % base)), (1, ("ask", 1)), (1, ("read", 1, 1)), (1, ("write", 0, 2 % base)),
                (1, ("call", "g", 1)), (2, ("write", 1, 1)), (2, ("end", 1)), (1, ("say", 1)), (1, ("end", 1)),
            ]
            for at, (depth, event) in enumerate(wanted):
                self.assert_same(h.tape(0), wanted[:at])
                self.assert_same(h.height(0), depth)
                self.assert_same(h.result(0), None)
                self.assert_same(h.step(0, answer=1 if event[0] == "ask" else None), event)
            self.assert_same(h.tape(0), wanted)
            self.assert_same((h.result(0), h.runs(), h.cells(), len(h)), (1, [], (2 % base, 1), 0))

    def test_a_mute_run_goes_on_until_it_is_stopped(self):
        for base in BASES:
            h = house_of([("tell", "f", (("say", 0), ("go", 1))), ("begin", "f", 0), ("step", 0, None)], base=base)
            self.assert_same(h.deed(0), ("mute",))
            self.assert_same([h.step(0), h.step(0)], [("mute",), ("mute",)])
            self.assert_same(h.tape(0), [(1, ("say", 0)), (1, ("mute",)), (1, ("mute",))])
            self.assert_unchanged(h, NotAsked, {"run": 0}, "step", 0, answer=0)
            self.assert_same((h.runs(), h.height(0), h.result(0)), ([0], 1, None))
            self.assert_same(h.stop(0), None)
            self.assert_same((h.runs(), h.result(0), len(h)), ([], None, 0))
            self.assert_same(h.tape(0), [(1, ("say", 0)), (1, ("mute",)), (1, ("mute",))])

    def test_a_name_without_a_text_is_called_with_the_text_without_rows(self):
        for base in BASES:
            h = house_of([("tell", "f", (("call", "g", 1, "x"), ("end", "x"))), ("begin", "f", 1)], base=base)
            self.assert_same([h.step(0), h.deed(0), h.height(0)], [("call", "g", 1), ("end", 0), 2])
            # Once the call is open, a text for the name comes too late.
            h.tell("g", (("end", 1),))
            self.assert_same([h.step(0), h.step(0)], [("end", 0), ("end", 0)])
            h.begin("f")
            self.assert_same([h.step(1), h.step(1), h.step(1)], [("call", "g", 0 + 1), ("end", 1), ("end", 1)])

    def test_a_call_begins_with_the_newest_text_whoever_begins_it(self):
        for base in BASES:
            h = House(base=base)
            h.tell("f", (("call", "g", 0, "x"), ("call", "g", 0, "y"), ("end", ("-", "x", "y"))))
            h.tell("g", (("say", 0), ("end", 0)))
            h.begin("f")
            h.step(0)
            h.tell("g", (("say", 1), ("end", 1)))
            h.tell("f", (("end", 1),))
            self.assert_same([h.step(0), h.step(0), h.step(0), h.step(0), h.step(0), h.step(0)],
                             [("say", 0), ("end", 0), ("call", "g", 0), ("say", 1), ("end", 1), ("end", base - 1)])

    def test_dropped_while_open(self):
        for base in BASES:
            h = house_of([("tell", "f", ASK), ("begin", "f", 0), ("drop", "f")], base=base)
            self.assert_same([h.step(0, answer=1), h.step(0), h.step(0)], [("ask", 1), ("say", 1), ("end", 1)])
            self.assert_same((h.result(0), h.names()), (1, []))

    def test_a_part_that_calls_itself(self):
        for base in BASES:
            h = house_of([("tell", "f", (("if", "x", 0, 3), ("call", "f", ("-", "x", 1), "y"), ("end", ("+", "y", 1)),
                                         ("end", 1))), ("begin", "f", base - 1)], base=base)
            self.assert_same([h.step(0) for _ in range(base - 1)], [("call", "f", v) for v in range(base - 2, -1, -1)])
            self.assert_same(h.height(0), base)
            self.assert_same([h.step(0) for _ in range(base)], [("end", v % base) for v in range(1, base + 1)])
            self.assert_same(h.result(0), 0)

    def test_runs_side_by_side(self):
        for base in BASES:
            h = house_of([("tell", "f", ASK)] + [("begin", "f", 0)] * 4, base=base)
            self.assert_same(h.runs(), [0, 1, 2, 3])
            h.stop(1)
            h.play([("step", 2, 1), ("step", 2, None), ("step", 2, None)])
            self.assert_same((h.runs(), h.result(2), h.result(1)), ([0, 3], 1, None))
            self.assert_same(h.begin("f"), 4)
            self.assert_same((h.runs(), h.tape(0), h.tape(1)), ([0, 3, 4], [], []))


class SlowWay(HouseCase):
    def test_like_the_slow_house(self):
        words = {word: 0 for word in ("say", "ask", "read", "write", "call", "end", "mute")}
        for base in BASES:
            for seed in range(60):
                h, slow = House(base=base), SlowHouse(base)
                for at, deed in enumerate(some_history(seed, base, 60)):
                    found = h.play([deed])
                    self.assert_same(found, [slow.do(deed)], deed)
                    if deed[0] == "step":
                        words[found[0][0]] += 1
                    self.assert_same((h.runs(), list(h.cells()), h.names()),
                                     (slow.runs(), slow.memory, sorted(slow.parts)))
                    for run, line in enumerate(slow.began):
                        self.assert_same(h.tape(run), line.tape)
                        ended = line.over is not None and line.over[0] == "over"
                        self.assert_same(h.result(run), line.over[1] if ended else None)
                    for run in slow.runs():
                        self.assert_same((h.deed(run), h.height(run)), (slow.deed(run), len(slow.began[run].stack)))
                    self.assertEqual(len(h), sum(len(line.stack) for line in slow.began))
                    self.assertEqual(bool(h), len(h) > 0)
        self.assertGreater(min(words.values()), 50, words)

    def test_the_same_calls_made_by_methods(self):
        for base in BASES:
            for seed in range(10):
                history = some_history(seed, base, 40)
                h = House(base=base)
                for word, *items in history:
                    if word == "step":
                        h.step(items[0], answer=items[1])
                    else:
                        getattr(h, word)(*items)
                self.assert_same(snapshot(h), snapshot(house_of(history, base=base)))


if __name__ == "__main__":
    unittest.main()
