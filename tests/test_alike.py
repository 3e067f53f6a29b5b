"""Points 23 and 24: views, alike houses, and histories that tell houses apart."""

import random
import unittest

from callsover.alike import apart, are_alike, view
from callsover.house import House, house_of
from tests.helpers import BASES, ODD_VALUES, HouseCase, snapshot, with_idle_rows
from tests.stories import changed_text, next_deed, slow_house_of, some_history

END = (("end", 0),)


class AlikeCase(HouseCase):
    def assert_alike(self, one, other):
        for a, b in ((one, other), (other, one)):
            self.assert_same(are_alike(a, b), True)
            self.assert_same(apart(a, b), None)
            self.assert_same((a == b, a != b), (True, False))

    def assert_apart(self, one, other):
        """Not alike, and the history that is returned shows it, whichever house comes first."""
        for a, b in ((one, other), (other, one)):
            before = (snapshot(a), snapshot(b))
            self.assert_same(are_alike(a, b), False)
            self.assert_same((a == b, a != b), (False, True))
            history = apart(a, b)
            self.assertIs(type(history), list)
            self.assert_same(apart(a, b), history)
            self.assert_same(apart(a.twin(), b.twin()), history)
            self.assert_same((snapshot(a), snapshot(b)), before)
            history.append("spoiled")
            history = apart(a, b)
            twins = (a.twin(), b.twin())
            for twin in twins:
                twin.play(history)
            self.assertNotEqual(view(twins[0]), view(twins[1]), history)
        return history


class View(AlikeCase):
    def test_by_hand(self):
        for base in BASES:
            self.assert_same(view(House(base=base)), (base, (), (0, 0), ()))
            h = house_of([("tell", "g", (("call", "f", 1, "x"),)), ("tell", "a", (("end", 1),)), ("begin", "g", 0),
                          ("begin", "a", 0), ("begin", "a", 0), ("begin", "g", 0), ("step", 1, None), ("stop", 2),
                          ("step", 3, None), ("put", 1, 1)], base=base)
            wanted = (base, ("a", "g"), (0, 1),
                      ((1, ("call", "f", 1)), ("over", 1), ("stopped",), (2, ("end", 0))))
            self.assert_same(view(h), wanted)
            self.assert_same(view(house=h), wanted)

    def test_like_the_slow_house(self):
        for base in BASES:
            for seed in range(700, 720):
                history = some_history(seed, base, 40)
                self.assert_same(view(house_of(history, base=base)), slow_house_of(history, base).view())


class Alike(AlikeCase):
    def test_the_same_and_twins(self):
        for base in BASES:
            for seed in range(10):
                h = house_of(some_history(seed, base, 30), base=base)
                self.assert_alike(h, h)
                self.assert_alike(h, h.twin())
                self.assert_alike(House(base=base), House(base=base))

    def test_histories_and_tapes_do_not_matter(self):
        for base in BASES:
            one = house_of([("tell", "f", (("ask", "x"), ("end", 1))), ("begin", "f", 0), ("step", 0, 1)], base=base)
            other = house_of([("put", 0, 1), ("tell", "f", (("ask", "y"), ("end", 1))), ("begin", "f", 1), ("step", 0, 0),
                              ("put", 0, 0)], base=base)
            self.assert_alike(one, other)

    def test_texts_that_do_the_same(self):
        for base in BASES:
            one = house_of([("tell", "f", (("ask", "x"), ("say", "x"), ("go", 0))), ("begin", "f", 0)], base=base)
            other = house_of([("tell", "f", (("ask", "y"), ("say", "y"), ("ask", "x"), ("say", "x"), ("go", 0))),
                              ("begin", "f", 0)], base=base)
            self.assert_alike(one, other)
            one.tell("f", ())
            other.tell("f", (("end", ("*", "y", 1)),))
            self.assert_alike(one, other)

    def test_stands_that_no_call_of_the_part_begins_at_do_not_matter(self):
        for base in BASES:
            one = house_of([("tell", "f", END + (("say", 1),))], base=base)
            other = house_of([("tell", "f", END)], base=base)
            self.assert_alike(one, other)

    def test_what_is_no_house(self):
        for thing in ODD_VALUES + (object(), House, view(House())):
            self.assert_same((House() == thing, House() != thing), (False, True))
            self.assert_same((thing == House(), thing != House()), (False, True))

    def test_a_difference_that_no_result_that_can_come_reaches_is_none(self):
        for base in BASES:
            def waiting(text):
                return house_of([("tell", "f", text), ("tell", "g", (("ask", "x"), ("if", "x", 0, 3), ("end", 0), ("end", 1))),
                                 ("begin", "f", 0), ("step", 0, None), ("tell", "f", END)], base=base)
            same_till = (("call", "g", 0, "x"), ("if", "x", 0, 4), ("if", "x", 1, 4))
            one = waiting(same_till + (("say", 0), ("end", 0)))
            other = waiting(same_till + (("say", 1), ("end", 0)))
            # Only 0 and 1 can come, and behind these both do the same.
            self.assert_alike(one, other)
            third = waiting((("call", "g", 0, "x"), ("if", "x", 0, 4), ("go", 4), ("say", 0), ("end", 0)))
            self.assert_alike(one, third)
            if base > 2:
                wide = (("ask", "x"), ("end", "x"))
                self.assert_apart(*[house_of(h.history()[:1] + [("tell", "g", wide)] + h.history()[2:], base=base)
                                    for h in (one, other)])

    def test_nothing_comes_of_a_call_that_never_ends(self):
        def waiting(text):
            return house_of([("tell", "f", text), ("tell", "g", (("say", 0), ("go", 0))), ("begin", "f", 0),
                             ("step", 0, None), ("drop", "f")])
        self.assert_alike(waiting((("call", "g", 0, "x"), ("say", 1))), waiting((("call", "g", 0, "x"), ("say", 2))))


class Apart(AlikeCase):
    def test_views_that_differ(self):
        for base in BASES:
            h = house_of([("tell", "f", (("ask", "x"),)), ("begin", "f", 0)], base=base)
            for more in (("put", 0, 1), ("put", 1, 1), ("tell", "g", ()), ("drop", "f"), ("begin", "f", 0), ("stop", 0),
                         ("step", 0, 0)):
                other = h.twin()
                other.play([more])
                self.assert_same(self.assert_apart(h, other), [])
            self.assert_same(self.assert_apart(House(base=base), House(base=2 if base > 2 else 3)), [])
            over = [house_of([("tell", "f", (("end", "x"),)), ("begin", "f", v), ("step", 0, None)], base=base) for v in (0, 1)]
            self.assert_same(self.assert_apart(*over), [])
            over[0].begin("f"), over[1].begin("f")
            over[0].stop(1), over[1].step(1)
            self.assert_same(self.assert_apart(*over), [])

    def test_first_stands_of_parts(self):
        for base in BASES:
            for argument in range(base):
                one = house_of([("tell", "f", ()), ("tell", "g", END)], base=base)
                other = one.twin()
                other.tell("g", (("if", "x", argument, 2), END[0], ("end", 1)))
                self.assert_same(self.assert_apart(one, other), [("begin", "g", argument)])

    def test_behind_answers_cells_and_results(self):
        rows = {"ask": ("ask", "x"), "read": ("read", 1, "x"), "call": ("call", "none", 0, "x")}
        for base in BASES:
            for word, row in rows.items():
                for number in range(base):
                    def text(v):
                        return (("say", 1), row, row, ("if", "x", number, 5), ("end", 0), ("write", 0, v))
                    for deeds in ([], [("begin", "f", 0)], [("begin", "f", 0), ("step", 0, None)],
                                  [("begin", "f", 0), ("step", 0, None), ("tell", "f", ())]):
                        one, other = (house_of([("tell", "f", text(v))] + deeds, base=base) for v in (0, 1))
                        self.assert_apart(one, other)

    def test_results_of_several_waiting_calls(self):
        for base in BASES:
            for v in range(1, base):
                def house(last):
                    down = (("call", "g", 0, "x"), ("if", "x", v, 3), ("end", 0), ("say", last), ("end", 1))
                    hand = (("call", "g", 0, "y"), ("end", ("+", "y", 1)))
                    return house_of([
                        ("tell", "f", down), ("begin", "f", 0), ("tell", "g", hand), ("step", 0, None), ("step", 0, None),
                        ("tell", "g", (("read", 0, "x"), ("ask", "y"), ("call", "h", "y", "y"), ("end", "y"))),
                        ("step", 0, None), ("tell", "f", ()), ("tell", "g", ()),
                    ], base=base)
                self.assert_alike(house(1), house(1))
                history = self.assert_apart(house(0), house(1))
                self.assertGreater(len(history), 5)
                self.assertEqual({deed[0] for deed in history}, {"step", "put", "tell"})

    def test_the_only_difference_is_in_the_lowest_call(self):
        for base in BASES:
            def house(last):
                deeds = [("tell", "f", (("call", "f", 0, "x"), ("end", last))), ("begin", "f", 0)]
                deeds += [("tell", "f", (("call", "f", 0, "x"), ("end", 0)))] + [("step", 0, None)] * 19
                return house_of(deeds, base=base)
            one, other = house(0), house(1)
            self.assertEqual(len(one), 20)
            self.assert_apart(one, other)
            # The lowest call can receive nothing but 0.
            self.assert_alike(one, house("x"))
            self.assert_apart(other, house("x"))
            self.assert_apart(one, house(("+", "x", 1)))

    def test_many_open_runs_and_eight_parts(self):
        for base in BASES:
            for odd in range(6):
                def house(said):
                    deeds = [("tell", "abcdefgh"[at], (("ask", "x"), ("call", "z", "x", "y"), ("say", at % base))) for at in range(8)]
                    deeds += [("begin", "abcdefgh"[at], 0) for at in range(odd)]
                    deeds += [("tell", "h", (("ask", "x"), ("call", "z", "x", "y"), ("say", said))), ("begin", "h", 0)]
                    deeds += [("begin", "abcdefgh"[at], 0) for at in range(odd, 5)]
                    return house_of(deeds + [("tell", "h", END)], base=base)
                self.assertEqual((len(house(0)), len(house(0).names())), (6, 8))
                self.assert_alike(house(0), house(0))
                history = self.assert_apart(house(0), house(1))
                self.assertEqual({deed[1] for deed in history if deed[0] == "step"}, {odd})
            for odd in "abcdefgh":
                one = house_of([("tell", name, (("ask", "x"), ("say", "x"))) for name in "abcdefgh"], base=base)
                other = one.twin()
                other.tell(odd, (("ask", "x"), ("say", 0)))
                self.assertEqual(self.assert_apart(one, other)[0], ("begin", odd, 0))


class SlowWay(AlikeCase):
    def changed(self, source, history, base):
        """A history with another text, or a text that does the same, at one place."""
        tells = [at for at, deed in enumerate(history) if deed[0] == "tell"]
        at = source.choice(tells)
        text = history[at][2]
        way = source.randrange(3)
        text = with_idle_rows(text) if way == 0 and len(text) <= 7 else changed_text(source, text, base)
        return history[:at] + [("tell", history[at][1], text)] + history[at + 1:]

    def pairs(self, base, seeds):
        source = random.Random(base)
        for seed in seeds:
            history = some_history(seed, base, 30)
            one = house_of(history, base=base)
            for _ in range(8):
                try:
                    other_history = self.changed(source, history, base)
                    other = house_of(other_history, base=base)
                except (ValueError, IndexError):
                    continue
                yield history, one, other_history, other

    def test_like_the_slow_way(self):
        met = {"alike": 0, "views": 0, "short": 0, "long": 0}
        for base in BASES:
            for history, one, other_history, other in self.pairs(base, range(800, 870)):
                alike = slow_house_of(history, base).is_like(slow_house_of(other_history, base))
                if alike:
                    self.assert_alike(one, other)
                    met["alike"] += 1
                else:
                    found = self.assert_apart(one, other)
                    met["views" if not found else "short" if len(found) < 3 else "long"] += 1
        self.assertGreater(min(met.values()), 40, met)

    def test_no_history_tells_alike_houses_apart(self):
        source = random.Random(9)
        for base in BASES:
            for history, one, other_history, other in self.pairs(base, range(900, 920)):
                if not are_alike(one, other):
                    continue
                one, other, slow = one.twin(), other.twin(), slow_house_of(history, base)
                for _ in range(15):
                    deed = next_deed(source, slow, [])
                    slow.do(deed)
                    self.assert_same(one.play([deed]), other.play([deed]))
                    self.assert_same(view(one), view(other))
                self.assert_alike(one, other)


if __name__ == "__main__":
    unittest.main()
