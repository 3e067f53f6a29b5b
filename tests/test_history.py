"""Point 17, play, house_of and twin: histories told, played anew and undone."""

import unittest

from callsover.errors import NoHistory
from callsover.house import House, house_of
from tests.helpers import BASES, ODD_VALUES, HouseCase, same, snapshot
from tests.stories import SlowHouse, some_history

ASK = (("ask", "x"), ("say", "x"), ("end", "x"))
STORY = [
    ("tell", "f", ASK), ("tell", "g", (("call", "f", 1, "y"), ("end", "y"))), ("begin", "f", 1), ("begin", "g", 0),
    ("step", 0, 1), ("step", 1, None), ("put", 1, 1), ("step", 1, 0), ("drop", "f"), ("stop", 0), ("step", 1, None),
]
RETURNED = [None, None, 0, 1, ("ask", 1), ("call", "f", 1), None, ("ask", 0), None, None, ("say", 0)]

# Each is wrong wherever it stands in STORY.
WRONG = ODD_VALUES + (
    ["tell", "f", ()], [], ["stop", 0], ("tell",), ("tell", "f"), ("tell", "f", (), 0), ("tell", "F", ()),
    ("tell", "f", "say 1"), ("tell", "f", [("say", 1)]), ("tell", "f", (["say", 1],)), ("tell", "f", (("say", True),)),
    ("tell", ["f"], ()), ("drop",), ("drop", "zz"), ("drop", "f", None), ("drop", ["f"]), ("begin",), ("begin", "f"),
    ("begin", "zz", 0), ("begin", "f", True), ("begin", "f", None), ("begin", "f", 0, 0), ("begin", "f", -1),
    ("begin", ["f"], 0), ("step",), ("step", 0), ("step", 9, None), ("step", True, None), ("step", -1, None),
    ("step", 0, True), ("step", 0, 9), ("step", 0, None, None), ("step", [0], None), ("stop",), ("stop", 9),
    ("stop", True), ("stop", 0, 0), ("put",), ("put", 0), ("put", 2, 0), ("put", True, 0), ("put", 0, True),
    ("put", 0, 9), ("put", 0, 0, 0), ("put", [0], 0), ("say", 1), ("TELL", "f", ()), (None, 0), (["tell"], "f", ()),
    (True,), (("tell", "f", ()),), "tell f -", ("twin",), ("history",), ("play", []), ("kept",), ("standing", 0),
)


class Told(HouseCase):
    def test_what_the_methods_return(self):
        for base in BASES:
            h = House(base=base)
            self.assert_same(h.play(STORY), RETURNED)
            self.assert_same(h.history(), STORY)
            self.assert_same(h.play([]), [])
            self.assert_same(h.history(), STORY)
            self.assert_same(h.play(history=[("put", 0, 1)]), [None])
            self.assert_same(h.history(), STORY + [("put", 0, 1)])

    def test_played_anew_and_entry_by_entry(self):
        for base in BASES:
            for seed in range(12):
                history = some_history(seed, base, 50)
                h = House(base=base)
                returned = h.play(history)
                self.assert_same(h.history(), history)
                step_by_step, slow = House(base=base), SlowHouse(base)
                for at, deed in enumerate(history):
                    wanted = slow.do(deed)
                    self.assert_same(step_by_step.play([deed]), [wanted])
                    self.assert_same(returned[at], wanted)
                whole = snapshot(h)
                self.assert_same(snapshot(step_by_step), whole)
                self.assert_same(snapshot(house_of(h.history(), base=base)), whole)
                half = house_of(history[:25], base=base)
                half.play(history[25:])
                self.assert_same(snapshot(half), whole)

    def test_runs_are_those_of_the_house(self):
        h = house_of(STORY)
        h.play([("tell", "f", ASK), ("begin", "f", 0), ("step", 2, 2)])
        self.assert_same(h.runs(), [1, 2])
        self.assert_raises(NoHistory, {"at": 4}, h.play, STORY)


class Wrong(HouseCase):
    def test_one_wrong_entry_at_any_place(self):
        for base in BASES:
            h = house_of([("put", 0, 1)], base=base)
            before = snapshot(h)
            for wrong in WRONG:
                for at in (0, 1, 5, len(STORY)):
                    history = STORY[:at] + [wrong] + STORY[at:]
                    self.assert_raises(NoHistory, {"at": at}, h.play, history)
                    self.assert_raises(NoHistory, {"at": at}, house_of, history, base=base)
            self.assert_same(snapshot(h), before)

    def test_the_first_wrong_entry_counts(self):
        for at in range(len(STORY)):
            history = STORY[:at] + [("stop", 7)] + STORY[at:] + [None]
            self.assert_raises(NoHistory, {"at": at}, house_of, history)

    def test_what_lies_ahead_is_undone(self):
        for base in BASES:
            for seed in range(8):
                history = some_history(seed, base, 40)
                h = house_of(history[:20], base=base)
                before = snapshot(h)
                for at in (0, 7, 20):
                    wrong = history[20:20 + at] + [("stop", 99)]
                    self.assert_raises(NoHistory, {"at": at}, h.play, wrong)
                    self.assert_same(snapshot(h), before)
                # Nothing is left of what was undone, and everything can still be done.
                h.play(history[20:])
                self.assert_same(snapshot(h), snapshot(house_of(history, base=base)))

    def test_each_error_of_a_method(self):
        ahead = [("tell", "f", ASK), ("begin", "f", 0), ("begin", "f", 0), ("stop", 1)]
        for wrong in (("step", 0, None), ("step", 1, None), ("step", 1, 0), ("stop", 1), ("step", 0, 3),
                      ("step", 0, False)):
            self.assert_raises(NoHistory, {"at": 4}, house_of, ahead + [wrong])
        self.assert_raises(NoHistory, {"at": 5}, house_of, ahead + [("step", 0, 0), ("step", 0, 0)])

    def test_a_number_for_another_base(self):
        history = [("tell", "f", (("say", 2),)), ("begin", "f", 0)]
        self.assert_raises(NoHistory, {"at": 0}, house_of, history, base=2)
        self.assert_same(house_of(history, base=3).runs(), [0])
        self.assert_raises(NoHistory, {"at": 1}, house_of, [("tell", "f", ()), ("begin", "f", 3)])
        self.assert_same(house_of([("tell", "f", ()), ("begin", "f", 3)], base=4).runs(), [0])

    def test_no_list(self):
        h = house_of(STORY)
        for history in ODD_VALUES + (tuple(STORY), iter(STORY), STORY[0]):
            if not isinstance(history, list):
                self.assert_unchanged(h, NoHistory, {"at": 0}, "play", history)
                self.assert_raises(NoHistory, {"at": 0}, house_of, history)

    def test_a_returned_history_in_which_parts_are_replaced(self):
        for base in BASES:
            for seed in range(4):
                history = some_history(seed, base, 25)
                for at in range(len(history)):
                    for item in range(len(history[at])):
                        for wrong in (True, None, [], "Z", -1):
                            changed = list(history[at])
                            changed[item] = wrong
                            if wrong is None and same(history[at][item], None):
                                continue
                            spoiled = house_of(history, base=base).history()
                            spoiled[at] = tuple(changed)
                            self.assert_raises(NoHistory, {"at": at}, house_of, spoiled, base=base)
                    spoiled = list(history)
                    spoiled[at] = list(history[at])
                    self.assert_raises(NoHistory, {"at": at}, house_of, spoiled, base=base)


class Twins(HouseCase):
    def test_a_twin_is_the_same_and_independent(self):
        for base in BASES:
            for seed in range(8):
                history = some_history(seed, base, 50)
                h = house_of(history[:30], base=base)
                twin = h.twin()
                self.assertIsNot(twin, h)
                self.assertIsInstance(twin, House)
                before = snapshot(h)
                self.assert_same(snapshot(twin), before)
                twin.play(history[30:])
                self.assert_same(snapshot(h), before)
                after = snapshot(twin)
                h.play(history[30:40])
                h.tell("f", ())
                self.assert_same(snapshot(twin), after)
                self.assert_same(after, snapshot(house_of(history, base=base)))

    def test_houses_side_by_side(self):
        one, other = House(base=2), House(base=2)
        one.tell("f", ASK)
        one.begin("f")
        one.put(0, 1)
        self.assert_same(snapshot(other), snapshot(House(base=2)))
        other.tell("f", ())
        self.assert_same(one.text("f"), ASK)
        self.assert_same(one.step(0, answer=1), ("ask", 1))

    def test_a_twin_of_each_kind_of_run(self):
        h = house_of(STORY + [("step", 1, None)])
        twin = h.twin()
        twin.step(1)
        self.assert_same((h.height(1), h.result(1), twin.result(1)), (1, None, 0))
        self.assert_same((twin.runs(), h.runs()), ([], [1]))
        self.assert_same(len(h.tape(1)) + 1, len(twin.tape(1)))


if __name__ == "__main__":
    unittest.main()
