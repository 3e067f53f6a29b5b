"""Points 21 and 22: latest, ring and preview."""

import random
import unittest

from callsover.house import House, house_of
from tests.helpers import BASES, HouseCase, snapshot
from tests.stories import SlowHouse, changed_text, some_history, some_text

LOOP = (("ask", "x"), ("if", "x", 0, 0), ("say", "x"), ("go", 0))


def all_latests(h):
    return [(run, depth, h.latest(run, depth)) for run in h.runs() for depth in range(1, h.height(run) + 1)]


class Latest(HouseCase):
    def test_by_hand(self):
        for base in BASES:
            text = (("ask", "x"), ("if", "x", 0, 4), ("say", 1), ("say", 2 % base), ("end", 1))
            h = house_of([("tell", "f", text), ("begin", "f", 0)], base=base)
            self.assert_same(h.latest(0, 1), 0)
            h.drop("f")
            # ask, say 1, say 2, end 1: the end of a call is a deed, too.
            self.assert_same(h.latest(0, 1), 4)
            h.tell("g", (("end", 1),))
            self.assert_same(h.latest(0, 1), 3)
            h.tell("g", (("say", 2 % base), ("end", 1)))
            self.assert_same(h.latest(0, 1), 2)
            h.step(0, answer=1)
            self.assert_same(h.latest(0, 1), 1)
            h.step(0)
            self.assert_same(h.latest(0, 1), 0)
            h.drop("g")
            self.assert_same(h.latest(0, 1), 2)
            h.step(0)
            self.assert_same((h.latest(0, 1), h.ring(0, 1)), (1, None))

    def test_mute_ends_a_path(self):
        for base in BASES:
            h = house_of([("tell", "f", (("say", 0), ("go", 1))), ("begin", "f", 0), ("drop", "f")], base=base)
            self.assert_same(h.latest(0, 1), 1)
            h.step(0)
            self.assert_same((h.standing(0), h.latest(0, 1), h.ring(0, 1)), ([("mute",)], 0, None))

    def test_waiting_calls(self):
        for base in BASES:
            h = house_of([("tell", "f", (("call", "g", 0, "x"), ("if", "x", 0, 4), ("say", 1), ("say", 1), ("end", 1))),
                          ("tell", "g", (("ask", "x"), ("end", "x"))), ("begin", "f", 0), ("step", 0, None),
                          ("drop", "f")], base=base)
            self.assert_same(all_latests(h), [(0, 1, 2), (0, 2, 0)])
            h.step(0, answer=0)
            self.assert_same(all_latests(h), [(0, 1, 0), (0, 2, 0)])
            h.tell("g", (("go", 0),))
            self.assert_same(all_latests(h), [(0, 1, 1), (0, 2, 0)])
            h.tell("g", (("end", 1), ("go", 1)))
            self.assert_same(all_latests(h), [(0, 1, 0), (0, 2, 0)])
            h.drop("g")
            self.assert_same(all_latests(h), [(0, 1, 1), (0, 2, 1)])

    def test_a_waiting_call_that_cannot_go_on(self):
        h = house_of([("tell", "f", (("call", "g", 0, "x"), ("say", 0), ("go", 1))), ("tell", "g", (("go", 0),)),
                      ("begin", "f", 0), ("step", 0, None), ("drop", "f")])
        self.assert_same((h.latest(0, 1), h.ring(0, 1)), (0, None))
        h = house_of([("tell", "f", (("call", "g", 0, "x"), ("say", 0), ("go", 1))),
                      ("begin", "f", 0), ("step", 0, None), ("drop", "f")])
        self.assert_same((h.latest(0, 1), h.ring(0, 1), h.latest(0, 2)), (None, (0, (), (0,)), 1))

    def test_the_result_of_a_ring_can_come_and_never_ends(self):
        for base in BASES:
            # Of the call above, 1 and, in greater bases, 2 can come; only behind the last of these is a ring.
            last = base - 1 if base < 3 else 2
            text = (("call", "g", 0, "x"), ("if", "x", last, 3), ("end", 1), ("say", 0), ("write", 0, 1), ("go", 3))
            above = (("ask", "x"), ("if", "x", 0, 3), ("end", 1), ("end", last))
            h = house_of([("tell", "f", text), ("tell", "g", above), ("begin", "f", 0), ("step", 0, None), ("drop", "f")],
                         base=base)
            self.assert_same(h.standing(0)[0][1][0], None)
            self.assert_same((h.latest(0, 1), h.ring(0, 1)), (None, (last, (), (0, 0))))
            self.assert_same((h.latest(0, 2), h.ring(0, 2)), (0, None))

    def test_never(self):
        for base in BASES:
            h = house_of([("tell", "f", LOOP), ("begin", "f", 0), ("drop", "f")], base=base)
            self.assert_same(h.latest(0, 1), None)
            h.tell("g", LOOP)
            self.assert_same(h.latest(0, 1), 0)


class SlowWay(HouseCase):
    def test_latest_and_ring_like_a_slow_search(self):
        met = {"none": 0, "long": 0, "waiting ring": 0}
        for base in BASES:
            for seed in range(400, 460):
                h, slow = House(base=base), SlowHouse(base)
                for at, deed in enumerate(some_history(seed, base, 40)):
                    h.play([deed])
                    slow.do(deed)
                    if at % 5 != 4 and deed[0] not in ("tell", "drop"):
                        continue
                    look = slow.look()
                    for run, depth, latest in all_latests(h):
                        self.assert_same(latest, look.latest(run, depth), (run, depth))
                        self.check_ring(h, run, depth)
                        met["none"] += latest is None
                        met["long"] += latest is not None and latest > 2
                        met["waiting ring"] += latest is None and depth < h.height(run)
        self.assertGreater(min(met.values()), 30, met)

    def check_ring(self, h, run, depth):
        """By following lead and round through the kept classes."""
        found = h.ring(run, depth)
        if h.latest(run, depth) is not None:
            self.assert_same(found, None)
            return
        self.assertIs(type(found), tuple)
        result, lead, around = found
        self.assertIs(type(lead), tuple)
        self.assertIs(type(around), tuple)
        self.assertGreater(len(around), 0)
        place = h.standing(run)[depth - 1]
        if depth < h.height(run):
            self.assertIs(type(result), int)
            self.assertIn(result, h.results(run, depth + 1))
            place = place[1][result]
        else:
            self.assert_same(result, None)
        start = self.follow(h, place, lead)
        self.assert_same(self.follow(h, start, around), start)

    def follow(self, h, place, path):
        kept = h.kept()
        for branch in path:
            self.assertEqual(place[0], "kept")
            self.assertIs(type(branch), int)
            self.assertIn(branch, range(len(kept[place[1]][1])))
            place = kept[place[1]][1][branch]
        self.assertEqual(place[0], "kept")
        return place

    def test_no_continuation_takes_longer(self):
        """Without tell and drop, a call is over or placed after at most latest of its own deeds."""
        source = random.Random(5)
        tried = 0
        for base in BASES:
            for seed in range(500, 540):
                h = house_of(some_history(seed, base, 30), base=base)
                for run in h.runs():
                    depth, latest = h.height(run), h.latest(run, h.height(run))
                    while latest is not None and latest > 0:
                        h.put(source.randrange(2), source.randrange(base))
                        h.step(run, answer=source.randrange(base) if h.deed(run) == ("ask",) else None)
                        while run in h.runs() and h.height(run) > depth and h.height(run) < 20:
                            h.step(run, answer=source.randrange(base) if h.deed(run) == ("ask",) else None)
                            if len(h.history()) > 300:
                                break
                        if run not in h.runs() or h.height(run) != depth:
                            break
                        self.assertLess(h.latest(run, depth), latest)
                        latest = h.latest(run, depth)
                        tried += 1
        self.assertGreater(tried, 20)


class Preview(HouseCase):
    def test_by_hand(self):
        h = house_of([("tell", "f", LOOP), ("begin", "f", 0), ("begin", "f", 1), ("step", 1, 1)])
        self.assert_same(h.preview("f", LOOP), [(0, 1, 0), (1, 1, 0)])
        self.assert_same(h.preview(name="f", text=()), [(0, 1, None), (1, 1, None)])
        self.assert_same(h.preview("new", ()), [(0, 1, 0), (1, 1, 0)])
        self.assert_same(House().preview("f", ()), [])

    def test_the_same_as_after_tell_in_a_twin(self):
        for base in BASES:
            source = random.Random(base)
            for seed in range(600, 630):
                h = house_of(some_history(seed, base, 40), base=base)
                before = snapshot(h)
                texts = [deed[2] for deed in h.history() if deed[0] == "tell"] or [()]
                for name in ("f", "g", "h", "new"):
                    for text in (source.choice(texts), changed_text(source, texts[-1], base), some_text(source, base), ()):
                        twin = h.twin()
                        twin.tell(name, text)
                        self.assert_same(h.preview(name, text), all_latests(twin))
                self.assert_same(snapshot(h), before)


if __name__ == "__main__":
    unittest.main()
