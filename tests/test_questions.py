"""Point 2 for houses: questions change nothing, returned lists are new, equal calls return the same."""

import copy
import unittest

from callsover.alike import apart, are_alike, view
from callsover.house import House, house_of
from tests.helpers import BASES, HouseCase, snapshot
from tests.stories import some_history

TEXT = (("ask", "x"), ("say", "x"))


def questions(h):
    """Every question that can be asked of a house, each as a function without arguments."""
    began = range(len([deed for deed in h.history() if deed[0] == "begin"]))
    asked = [
        h.names, h.runs, h.cells, h.history, h.kept, lambda: str(h), lambda: repr(h), lambda: len(h), lambda: bool(h),
        lambda: view(h), lambda: are_alike(h, h.twin()), lambda: h == h.twin(), lambda: h == 1,
        lambda: apart(h, h.twin()), lambda: apart(h, House(base=2)), lambda: h.preview("f", TEXT), lambda: h.preview("nn", ()),
    ]
    for name in h.names():
        asked.append(lambda name=name: h.text(name))
    for run in began:
        asked += [lambda run=run: h.tape(run), lambda run=run: h.result(run)]
    for run in h.runs():
        asked += [lambda run=run: h.deed(run), lambda run=run: h.height(run), lambda run=run: h.standing(run)]
        for depth in range(1, h.height(run) + 1):
            for method in (h.results, h.latest, h.ring):
                asked.append(lambda run=run, depth=depth, method=method: method(run, depth))
    return asked


def spoil(found):
    """Change a list in every way."""
    if isinstance(found, list):
        found.append("more")
        found[0] = "spoiled"
        found.reverse()


class Questions(HouseCase):
    def test_they_change_nothing_and_their_lists_are_new(self):
        for base in BASES:
            for seed in range(1100, 1110):
                h = house_of(some_history(seed, base, 35), base=base)
                before = snapshot(h)
                for ask in questions(h):
                    first = ask()
                    wanted = copy.deepcopy(first)
                    later = ask()
                    self.assert_same(later, wanted)
                    spoil(first)
                    self.assert_same(later, wanted)
                    self.assert_same(ask(), wanted)
                self.assert_same(snapshot(h), before)

    def test_later_calls_do_not_change_returned_lists(self):
        for base in BASES:
            for seed in range(1110, 1120):
                history = some_history(seed, base, 50)
                h = house_of(history[:30], base=base)
                found = [ask() for ask in questions(h)]
                wanted = copy.deepcopy(found)
                returned = h.play(history[30:])
                kept = copy.deepcopy(returned)
                self.assert_same(found, wanted)
                spoil(returned)
                self.assert_same(snapshot(h), snapshot(house_of(history, base=base)))
                self.assert_same(house_of(history[:30], base=base).play(history[30:]), kept)

    def test_questions_do_not_lead_to_other_answers_later(self):
        for base in BASES:
            for seed in range(1120, 1126):
                history = some_history(seed, base, 40)
                quiet, asked = House(base=base), House(base=base)
                for deed in history:
                    quiet.play([deed])
                    asked.play([deed])
                    for ask in questions(asked):
                        ask()
                self.assert_same(snapshot(quiet), snapshot(asked))

    def test_equal_calls_return_the_same_on_houses_with_the_same_history(self):
        for base in BASES:
            for seed in range(1130, 1140):
                history = some_history(seed, base, 40)
                one = house_of(history, base=base)
                other = House(base=base)
                for deed in history:
                    other.play([deed])
                    other.kept()
                    self.assertRaises(ValueError, other.play, [("tell", "zz", TEXT), ("begin", "zz", 0), None])
                self.assert_same([ask() for ask in questions(one)], [ask() for ask in questions(other)])
                self.assert_same([ask() for ask in questions(one)], [ask() for ask in questions(one.twin())])


class Arguments(HouseCase):
    def test_a_history_is_copied_and_not_changed(self):
        for base in BASES:
            history = some_history(3, base, 40)
            given = list(history)
            h = house_of(given, base=base)
            self.assert_same(given, history)
            before = snapshot(h)
            given.clear()
            self.assert_same(snapshot(h), before)
            given = list(history)
            h = House(base=base)
            h.play(given)
            given[0] = None
            given.append(given)
            self.assert_same(snapshot(h), before)

    def test_wrong_arguments_are_not_changed(self):
        h = house_of([("tell", "f", TEXT), ("begin", "f", 0)])
        for wrong in ([["f"], [0]], [("tell", "f", [("say", [1])])], ["f", ["say"]]):
            before = copy.deepcopy(wrong)
            for call in (lambda: h.tell("f", wrong), lambda: h.tell(wrong, ()), lambda: h.play(wrong), lambda: h.step(wrong),
                         lambda: h.step(0, answer=wrong), lambda: h.put(wrong, 0), lambda: h.put(0, wrong),
                         lambda: h.latest(0, wrong), lambda: h.preview("f", wrong), lambda: h.begin("f", wrong)):
                with self.assertRaises((ValueError, LookupError, RuntimeError)):
                    call()
            self.assert_same(wrong, before)

    def test_the_houses_do_not_change_when_they_are_compared(self):
        for base in BASES:
            for seed in range(1140, 1150):
                one = house_of(some_history(seed, base, 30), base=base)
                other = house_of(some_history(seed, base, 29), base=base)
                before = (snapshot(one), snapshot(other))
                apart(one, other), apart(other, one), are_alike(one, other), one == other, view(one)
                self.assert_same((snapshot(one), snapshot(other)), before)

    def test_kinds_of_what_is_returned(self):
        h = house_of([("tell", "f", (("call", "g", 0, "x"), ("say", 0), ("go", 1))), ("begin", "f", 0), ("step", 0, None),
                      ("drop", "f")])
        self.assert_same(h.standing(0), [("waits", (("kept", 0), None, None)), ("kept", 1)])
        self.assert_same(h.kept(), [(("say", 0), (("kept", 0),)), (("end", 0), ())])
        self.assert_same((h.ring(0, 1), h.results(0, 2), h.tape(0)), ((0, (), (0,)), [0], [(1, ("call", "g", 0))]))


if __name__ == "__main__":
    unittest.main()
