"""Point 25: deeds, events, places and kept classes as strings; str and repr of a house."""

import unittest

from callsover.house import House, house_of
from callsover.shown import show_class, show_deed, show_place
from tests.helpers import BASES, HouseCase
from tests.stories import some_history


class Shown(HouseCase):
    def test_deeds_and_events(self):
        wanted = {
            ("say", 1): "say 1", ("ask",): "ask", ("read", 0): "read 0", ("write", 1, 2): "write 1 2",
            ("call", "f", 0): "call f 0", ("end", 3): "end 3", ("mute",): "mute", ("ask", 1): "ask 1",
            ("read", 1, 0): "read 1 0", ("call", "abcdefgh", 3): "call abcdefgh 3",
        }
        for deed, written in wanted.items():
            self.assert_same(show_deed(deed), written)
            self.assert_same(show_deed(deed=deed), written)

    def test_places(self):
        wanted = {
            ("mute",): "mute", ("new", "f", 2, 0, 1): "f 2 0 1", ("new", "kept", 16, 3, 0): "kept 16 3 0",
            ("kept", 3): "kept 3", ("kept", 120): "kept 120",
            ("waits", (("kept", 0), None)): "waits [kept 0, -]", ("waits", (None, None, None)): "waits [-, -, -]",
            ("waits", (("mute",), ("new", "waits", 0, 0, 0), ("kept", 12), None)): "waits [mute, waits 0 0 0, kept 12, -]",
        }
        for place, written in wanted.items():
            self.assert_same(show_place(place), written)
            self.assert_same(show_place(place=place), written)

    def test_kept_classes(self):
        wanted = {
            (("end", 1), ()): "end 1", (("say", 1), (("kept", 1),)): "say 1 -> kept 1",
            (("ask",), (("new", "f", 1, 0, 0), ("mute",))): "ask -> f 1 0 0, mute",
            (("call", "g", 2), (("kept", 0), ("kept", 0), ("mute",))): "call g 2 -> kept 0, kept 0, mute",
            (("read", 0), (("kept", 0),) * 4): "read 0 -> kept 0, kept 0, kept 0, kept 0",
            (("write", 1, 0), (("mute",),)): "write 1 0 -> mute",
        }
        for entry, written in wanted.items():
            self.assert_same(show_class(entry), written)
            self.assert_same(show_class(entry=entry), written)


class Houses(HouseCase):
    def test_str_repr_len_and_truth(self):
        for base in BASES:
            h = House(base=base)
            self.assert_same((str(h), repr(h), len(h), bool(h)), ("none", f"House(base={base}, 0 parts, 0 runs)", 0, False))
            h.tell("f", (("call", "g", 1, "x"),))
            self.assert_same((str(h), repr(h), len(h), bool(h)), ("none", f"House(base={base}, 1 parts, 0 runs)", 0, False))
            h.tell("g", (("ask", "x"),))
            for name in "fgf":
                h.begin(name)
            h.step(2)
            self.assert_same(str(h), "0: 1 call g 1; 1: 1 ask; 2: 2 ask")
            self.assert_same((repr(h), len(h), bool(h)), (f"House(base={base}, 2 parts, 3 runs)", 4, True))
            h.stop(1)
            self.assert_same(str(h), "0: 1 call g 1; 2: 2 ask")
            h.drop("f")
            self.assert_same((repr(h), len(h)), (f"House(base={base}, 1 parts, 2 runs)", 3))
            h.stop(0), h.stop(2)
            self.assert_same((str(h), len(h), bool(h)), ("none", 0, False))
            h.tell("f", (("go", 0),))
            h.begin("f")
            self.assert_same(str(h), "3: 1 mute")

    def test_by_chance(self):
        for base in BASES:
            for seed in range(10):
                h = house_of(some_history(seed, base, 40), base=base)
                parts = [f"{r}: {h.height(r)} {' '.join(str(item) for item in h.deed(r))}" for r in h.runs()]
                self.assert_same(str(h), "; ".join(parts) or "none")
                self.assert_same(repr(h), f"House(base={base}, {len(h.names())} parts, {len(h.runs())} runs)")
                self.assert_same(len(h), sum(h.height(r) for r in h.runs()))


if __name__ == "__main__":
    unittest.main()
