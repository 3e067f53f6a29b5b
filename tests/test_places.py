"""Points 3 and 18 to 20: results that can come, places and kept classes."""

import unittest

from callsover.house import House, house_of
from callsover.rests import parting
from callsover.stands import first_stand, stands_of
from tests.helpers import BASES, HouseCase, slow_deed, slow_stands, slow_targets
from tests.stories import SlowHouse, some_history

ASK = (("ask", "x"), ("say", "x"), ("end", 0))


def house_with(base, *deeds):
    return house_of(list(deeds), base=base)


class Places(HouseCase):
    def test_a_newest_stand_that_no_call_can_come_to(self):
        for base in BASES:
            h = house_with(base, ("tell", "g", (("say", 1), ("end", 0))), ("begin", "g", 0), ("drop", "g"),
                           ("tell", "f", (("end", 0), ("say", 1))))
            self.assert_same(h.standing(0), [("new", "f", 1, 0, 0)])
            self.assert_same(h.kept(), [])

    def test_the_least_newest_stand(self):
        for base in BASES:
            h = house_with(base, ("tell", "m", (("end", 1),)), ("begin", "m", 1))
            self.assert_same(h.standing(0), [("new", "m", 0, 0, 0)])
            h.tell("z", (("end", 1),))
            self.assert_same(h.standing(0), [("new", "m", 0, 0, 0)])
            h.tell("b", (("say", 0), ("end", "y")))
            self.assert_same(h.standing(0), [("new", "b", 1, 0, 1)])
            h.tell("ab", (("say", 0), ("end", ("+", "x", "y"))))
            self.assert_same(h.standing(0), [("new", "ab", 1, 0, 1)])
            h.tell("ab", (("end", "x"), ("end", "y")))
            self.assert_same(h.standing(0), [("new", "ab", 0, 1, 0)])
            for name in ("ab", "b", "m"):
                h.drop(name)
            self.assert_same(h.standing(0), [("new", "z", 0, 0, 0)])
            h.drop("z")
            self.assert_same((h.standing(0), h.kept()), ([("kept", 0)], [(("end", 1), ())]))

    def test_the_end_of_a_text_is_a_newest_stand(self):
        for base in BASES:
            h = house_with(base, ("tell", "f", (("say", 1),)), ("begin", "f", 0), ("step", 0, None),
                           ("tell", "f", (("say", 0),)))
            self.assert_same(h.standing(0), [("new", "f", 1, 0, 0)])

    def test_a_call_of_a_name_without_a_text(self):
        for base in BASES:
            h = house_with(base, ("tell", "f", (("call", "nil", 1, "x"), ("end", 1))), ("begin", "f", 0), ("step", 0, None))
            # No row says 0 or ends with 0 but the end of the text of f.
            self.assert_same(h.standing(0), [("waits", (("new", "f", 1, 0, 0),) + (None,) * (base - 1)),
                                             ("new", "f", 2, 0, 0)])
            h.tell("f", (("go", 0),))
            self.assert_same(h.standing(0)[1], ("new", "f", 1, 0, 0))
            h.drop("f")
            self.assert_same(h.standing(0), [("waits", (("kept", 0),) + (None,) * (base - 1)), ("kept", 1)])
            self.assert_same(h.kept(), [(("end", 1), ()), (("end", 0), ())])

    def test_mute(self):
        for base in BASES:
            h = house_with(base, ("tell", "f", (("ask", "x"), ("if", "x", 0, 1))), ("begin", "f", 0), ("begin", "f", 0),
                           ("step", 1, 0), ("drop", "f"))
            self.assert_same(h.standing(1), [("mute",)])
            self.assert_same(h.standing(0), [("kept", 0)])
            self.assert_same(h.kept(), [(("ask",), (("mute",),) + (("kept", 1),) * (base - 1)), (("end", 0), ())])
            h.tell("g", (("go", 0),))
            self.assert_same(h.standing(1), [("mute",)])

    def test_the_part_need_not_be_the_one_that_was_called(self):
        for base in BASES:
            h = house_with(base, ("tell", "f", ASK), ("begin", "f", 0), ("tell", "f", ()),
                           ("tell", "a", ASK[:2] + (("say", 0),)))
            self.assert_same(h.standing(0), [("kept", 0)])
            h.tell("c", (("go", 1), ("ask", "y"), ("say", "y"), ("go", 4), ("end", 0)))
            self.assert_same(h.standing(0), [("new", "c", 1, 0, 0)])

    def test_waiting_calls(self):
        for base in BASES:
            h = house_with(base, ("tell", "f", (("call", "g", 0, "x"), ("say", "x"))), ("tell", "g", (("ask", "x"), ("end", "x"))),
                           ("begin", "f", 0), ("step", 0, None))
            every = tuple(range(base))
            self.assert_same(h.standing(0), [("waits", tuple(("new", "f", 1, r, 0) for r in every)), ("new", "g", 0, 0, 0)])
            h.tell("f", (("say", 0),))
            kept = tuple(("kept", r - 1) for r in every[1:])
            self.assert_same(h.standing(0)[0], ("waits", (("new", "f", 0, 0, 0),) + kept))
            self.assert_same(h.kept(), [(("say", r), (("new", "f", 1, 0, 0),)) for r in every[1:]])
            # As soon as only 1 can come, the other entries are gone, and so are their classes.
            h.step(0, answer=1)
            self.assert_same(h.standing(0), [("waits", (None, ("kept", 0)) + (None,) * (base - 2)), ("new", "g", 1, 1, 0)])
            self.assert_same(h.kept(), [(("say", 1), (("new", "f", 1, 0, 0),))])
            self.assert_same([h.results(0, 1), h.results(0, 2)], [[0], [1]])

    def test_nothing_can_come_of_a_call_that_never_ends(self):
        for base in BASES:
            h = house_with(base, ("tell", "f", (("call", "g", 0, "x"), ("end", "x"))), ("tell", "g", (("say", 0), ("go", 0))),
                           ("begin", "f", 0), ("step", 0, None), ("drop", "f"))
            self.assert_same(h.standing(0), [("waits", (None,) * base), ("new", "g", 0, 0, 0)])
            self.assert_same((h.results(0, 1), h.results(0, 2), h.kept()), ([], [], []))
            h.tell("g", (("go", 0),))
            self.assert_same(h.standing(0), [("waits", (None,) * base), ("kept", 0)])
            self.assert_same(h.kept(), [(("say", 0), (("kept", 0),))])

    def test_a_loop_that_is_written_otherwise_is_the_same(self):
        for base in BASES:
            h = house_with(base, ("tell", "f", (("ask", "x"), ("say", "x"), ("go", 0))), ("begin", "f", 0),
                           ("tell", "f", (("ask", "y"), ("say", "y"), ("ask", "x"), ("say", "x"), ("go", 0))))
            self.assert_same(h.standing(0), [("new", "f", 0, 0, 0)])
            h.step(0, answer=1)
            self.assert_same(h.standing(0), [("new", "f", 1, 0, 1)])


class Results(HouseCase):
    def test_through_several_waiting_calls(self):
        for base in BASES:
            # Each call hands on one more than it received; the top can end with 0 or 1.
            h = house_with(base, ("tell", "f", (("call", "f", 0, "x"), ("end", ("+", "x", 1)))), ("begin", "f", 0),
                           ("step", 0, None), ("step", 0, None), ("tell", "f", (("ask", "x"), ("if", "x", 0, 3), ("end", 1))),
                           ("step", 0, None))
            self.assertEqual(h.height(0), 4)
            for up in range(4):
                self.assert_same(h.results(0, 4 - up), sorted({up % base, (up + 1) % base}))

    def test_whatever_the_house_contains_now(self):
        for base in BASES:
            text = (("read", 0, "x"), ("if", "x", 0, 4), ("call", "none", 0, "y"), ("end", "y"), ("end", 1))
            h = house_with(base, ("tell", "f", text), ("begin", "f", 0))
            self.assert_same(h.results(0, 1), list(range(base)))
            h.step(0)
            self.assert_same(h.results(0, 1), [1])
            h.put(0, 1)
            h.begin("f")
            h.step(1)
            self.assert_same(h.results(1, 1), list(range(base)))
            h.step(1)
            self.assert_same([h.results(1, 1), h.results(1, 2)], [[0], [0]])


class Kept(HouseCase):
    def test_their_order(self):
        for base in BASES:
            text = (("ask", "x"), ("if", "x", 0, 4), ("say", 1), ("end", 1), ("write", 0, 1), ("end", 0))
            h = house_with(base, ("tell", "f", text), ("tell", "g", (("call", "f", 0, "y"), ("read", 1, "x"))),
                           ("begin", "f", 0), ("begin", "g", 0), ("step", 1, None), ("step", 1, 1), ("begin", "f", 0),
                           ("stop", 0), ("drop", "f"), ("drop", "g"))
            # Run 1: the waiting call can go on with 1 only; its top says; run 2 asks; then the branches.
            self.assert_same(h.standing(1), [("waits", (None, ("kept", 0)) + (None,) * (base - 2)), ("kept", 1)])
            self.assert_same(h.standing(2), [("kept", 2)])
            self.assert_same(h.kept(), [
                (("read", 1), (("kept", 3),) * base),
                (("say", 1), (("kept", 4),)),
                (("ask",), (("kept", 5),) + (("kept", 1),) * (base - 1)),
                (("end", 0), ()),
                (("end", 1), ()),
                (("write", 0, 1), (("kept", 3),)),
            ])
            h.stop(1)
            self.assert_same(h.standing(2), [("kept", 0)])
            self.assert_same([deed for deed, _ in h.kept()],
                             [("ask",), ("write", 0, 1), ("say", 1), ("end", 0), ("end", 1)])
            h.stop(2)
            self.assert_same(h.kept(), [])

    def test_branches_of_a_call_that_no_text_told_would_take(self):
        h = house_with(3, ("tell", "f", (("call", "g", 0, "x"), ("say", "x"))), ("tell", "g", (("end", 0),)),
                       ("begin", "f", 0), ("drop", "f"))
        self.assert_same(h.kept(), [
            (("call", "g", 0), (("kept", 1), ("kept", 2), ("kept", 3))),
            (("say", 0), (("new", "g", 0, 0, 0),)), (("say", 1), (("new", "g", 0, 0, 0),)),
            (("say", 2), (("new", "g", 0, 0, 0),)),
        ])

    def test_after_each_tell_and_drop(self):
        for base in BASES:
            h = house_with(base, ("tell", "f", ASK), ("begin", "f", 0))
            self.assert_same(h.kept(), [])
            h.drop("f")
            self.assert_same(len(h.kept()), base + 2)
            h.tell("f", (("say", 0),))
            self.assert_same([deed for deed, _ in h.kept()], [("ask",)] + [("say", v) for v in range(1, base)])
            self.assert_same(h.kept()[0][1], (("new", "f", 0, 0, 0),) + tuple(("kept", v) for v in range(1, base)))
            h.tell("g", (("say", "x"), ("end", 0)))
            self.assert_same(h.kept(), [(("ask",), (("new", "f", 0, 0, 0),) + tuple(("new", "g", 0, v, 0) for v in range(1, base)))])
            h.tell("a", (("say", "y"), ("end", 0)))
            self.assert_same(h.kept(), [(("ask",), tuple(("new", "a", 0, 0, v) for v in range(base)))])
            h.tell("f", ASK)
            self.assert_same((h.kept(), h.standing(0)), ([], [("new", "f", 0, 0, 0)]))
            h.drop("f")
            self.assert_same(h.kept(), [(("ask",), tuple(("new", "a", 0, 0, v) for v in range(base)))])

    def test_two_calls_of_alike_texts_need_one_class(self):
        for base in BASES:
            h = house_with(base, ("tell", "f", ASK), ("begin", "f", 0), ("tell", "f", (("go", 1),) + ASK), ("begin", "f", 1),
                           ("tell", "f", (("end", 0),)))
            self.assert_same(h.standing(0) + h.standing(1), [("kept", 0), ("kept", 0)])
            self.assert_same(len(h.kept()), base + 1)


class SlowWay(HouseCase):
    def test_like_the_slow_house(self):
        met = {"new": 0, "kept": 0, "mute": 0, "waits": 0}
        for base in BASES:
            for seed in range(100, 150):
                h, slow = House(base=base), SlowHouse(base)
                for at, deed in enumerate(some_history(seed, base, 48)):
                    h.play([deed])
                    slow.do(deed)
                    if at % 4 == 3 or deed[0] in ("tell", "drop"):
                        look = slow.look()
                        for run in slow.runs():
                            self.assert_same(h.standing(run), look.places[run])
                            for place in h.standing(run):
                                met[place[0]] += 1
                            for depth in range(1, h.height(run) + 1):
                                self.assert_same(h.results(run, depth), slow.results(run, depth))
                        self.assert_same(h.kept(), look.kept)
        self.assertGreater(min(met.values()), 200, met)

    def test_no_two_kept_classes_are_alike_and_none_is_like_a_newest_stand(self):
        checked = 0
        for base in BASES:
            for seed in range(200, 240):
                h = house_of(some_history(seed, base, 40), base=base)
                groups = split_nodes(nodes_of(h, base))
                kept = [groups["kept", k] for k in range(len(h.kept()))]
                new = {group for node, group in groups.items() if node[0] != "kept"}
                self.assertEqual(len(set(kept)), len(kept))
                self.assertFalse(set(kept) & new)
                checked += len(kept)
        self.assertGreater(checked, 100)


def nodes_of(h, base):
    """The kept classes and the newest stands as one graph: {place: (deed, places)}."""
    nodes = {("kept", k): entry for k, entry in enumerate(h.kept())}
    nodes["mute",] = (("mute",), ())
    for name in h.names():
        text = h.text(name)
        for stand in slow_stands(text, base):
            ways = [("mute",) if t == (-1, 0, 0) else ("new", name, *t) for t in slow_targets(text, stand, base)]
            nodes["new", name, *stand] = (slow_deed(text, stand, base), tuple(ways))
    return nodes


def split_nodes(nodes):
    groups = {node: 0 for node in nodes}
    for _ in nodes:
        marks = {node: (deed, tuple(groups[way] for way in ways)) for node, (deed, ways) in nodes.items()}
        numbers = {mark: at for at, mark in enumerate(dict.fromkeys(marks.values()))}
        split = {node: numbers[marks[node]] for node in nodes}
        if len(set(split.values())) == len(set(groups.values())):
            return split
        groups = split
    return groups


class Placed(HouseCase):
    def test_placed_exactly_when_alike_to_a_newest_stand(self):
        for base in BASES:
            for seed in range(300, 320):
                history = some_history(seed, base, 30)
                texts = [deed for deed in history if deed[0] == "tell"]
                for (_, name, text), (_, _, other) in zip(texts, texts[1:]):
                    h = house_of([("tell", name, text), ("begin", name, 1), ("tell", name, other)], base=base)
                    stand = first_stand(text, 1, base=base)
                    alike = [s for s in stands_of(other, base=base) if parting(text, stand, other, s, base=base) is None]
                    place = h.standing(0)[0]
                    if stand == (-1, 0, 0):
                        self.assert_same(place, ("mute",))
                    elif alike:
                        self.assert_same(place, ("new", name, *alike[0]))
                    else:
                        self.assert_same(place, ("kept", 0))


if __name__ == "__main__":
    unittest.main()
