"""Houses that are asked after each deed: the answers are those of a new house, and come in a short time."""

import time
import unittest
from unittest import mock

from callsover import places
from callsover.alike import apart, are_alike
from callsover.desk import Desk
from callsover.errors import NoHistory, NoRows
from callsover.house import House, do_entry, house_of
from callsover.texts import show_text
from tests.helpers import BASES, HouseCase, same, snapshot, with_idle_rows
from tests.stories import some_history

# Eight parts turn these rows round: a large house.
T = (
    ("ask", "x"), ("say", ("+", "x", "y")), ("call", "g", "x", "y"), ("set", "y", ("*", "x", "y")),
    ("write", 0, "y"), ("read", 1, "y"), ("set", "x", ("+", "x", 1)), ("ask", "x"),
    ("say", "y"), ("call", "h", "y", "x"), ("write", 1, ("-", "x", "y")), ("ask", "y"),
    ("read", 0, "x"), ("say", ("*", "x", "y")), ("call", "a", "x", "x"), ("end", "y"),
)
SHORT = T[:3] + (("end", 0),)
LOOP = (("ask", "x"), ("say", ("+", "x", "y")), ("if", "x", 1, 5), ("call", "g", "x", "y"), ("go", 0), ("end", "y"))
ONE = (("say", 1), ("if", "x", 0, 1), ("end", 1))


def large_house():
    house = House(base=4)
    for k in range(8):
        house.tell("abcdefgh"[k], T[2 * k:] + T[:2 * k])
    for k in range(6):
        house.begin("abcdefgh"[k], k % 4)
    return house


def step_of(house, k):
    run = house.runs()[k % len(house.runs())]
    return ("step", run, k % house.base if house.deed(run) == ("ask",) else None)


def told_texts(history):
    return [deed[2] for deed in history if deed[0] == "tell"]


def with_other_texts(history):
    """The same history with texts that do the same."""
    return [(*deed[:2], with_idle_rows(deed[2])) if deed[0] == "tell" and len(deed[2]) <= 7 else deed for deed in history]


def all_in(thing):
    """All that an object holds, down to the innermost part."""
    if isinstance(thing, dict):
        return [(all_in(key), all_in(value)) for key, value in thing.items()]
    if isinstance(thing, (list, tuple)):
        return [all_in(item) for item in thing]
    return all_in(vars(thing)) if hasattr(thing, "__dict__") else thing


class Answers(HouseCase):
    def test_like_a_new_house(self):
        for base in BASES:
            for seed in range(1200, 1206):
                history = some_history(seed, base, 50)
                texts = told_texts(history) + [(), ONE]
                h = House(base=base)
                for at, deed in enumerate(history):
                    do_entry(h, deed)
                    new = house_of(history[:at + 1], base=base)
                    self.assert_same(snapshot(h), snapshot(new), (base, seed, at))
                    for name in ("f", "zz"):
                        text = texts[at % len(texts)]
                        self.assert_same(h.preview(name, text), new.preview(name, text), (base, seed, at))
                    self.assert_same(snapshot(h), snapshot(new), (base, seed, at))

    def test_a_preview_is_what_comes(self):
        for base in BASES:
            for seed in range(1206, 1212):
                h = House(base=base)
                for deed in some_history(seed, base, 50):
                    if deed[0] == "tell":
                        expected = h.preview(deed[1], deed[2])
                        do_entry(h, deed)
                        calls = [(run, depth) for run in h.runs() for depth in range(1, h.height(run) + 1)]
                        self.assert_same(expected, [(*call, h.latest(*call)) for call in calls])
                        self.assert_same(h.preview(deed[1], deed[2]), expected)
                    else:
                        do_entry(h, deed)

    def test_twins_share_nothing(self):
        for base in BASES:
            for seed in range(1212, 1218):
                history = some_history(seed, base, 60)
                others = with_other_texts(some_history(seed, base, 60))
                h = house_of(history[:30], base=base)
                snapshot(h)
                twin = h.twin()
                third = twin.twin()
                before = snapshot(h)
                for at in range(30, 60):
                    twin.play([others[at]])
                    twin.preview("f", ONE)
                    snapshot(twin)
                    self.assertEqual(h == twin, apart(h, twin) is None)
                    self.assert_same(snapshot(h), before)
                self.assert_same(snapshot(third), before)
                h.play(history[30:])
                self.assert_same(snapshot(h), snapshot(house_of(history, base=base)))
                self.assert_same(snapshot(twin), snapshot(house_of(history[:30] + others[30:], base=base)))
                self.assert_same(snapshot(third), before)

    def test_what_one_twin_finds_out_is_not_in_the_other(self):
        for base in BASES:
            for seed in range(1240, 1246):
                history = some_history(seed, base, 60)
                h = house_of(history[:40], base=base)
                for ask in (h.names, h.kept, lambda: snapshot(h)):
                    ask()
                    twin = h.twin()
                    before = all_in(h)
                    snapshot(twin)
                    self.assertTrue(twin == house_of(with_other_texts(history[:40]), base=base))
                    for deed in history[40:]:
                        twin.play([deed])
                        twin.preview("g", ONE)
                        snapshot(twin)
                    self.assertEqual(all_in(h), before)

    def test_compared_after_each_deed(self):
        for base in BASES:
            for seed in range(1218, 1224):
                history = some_history(seed, base, 40)
                one, other = House(base=base), House(base=base)
                for at, (deed, other_deed) in enumerate(zip(history, with_other_texts(history))):
                    one.play([deed])
                    other.play([other_deed])
                    snapshot(one)
                    fresh = (house_of(one.history(), base=base), house_of(other.history(), base=base))
                    for pair in ((one, other), (other, one), (one, fresh[1]), (one, one.twin())):
                        self.assertTrue(are_alike(*pair) and pair[0] == pair[1] and apart(*pair) is None, (base, seed, at))
                    changed = fresh[1].twin()
                    changed.tell("f", ONE)
                    one_more = one.twin()
                    one_more.tell("f", ())
                    found = apart(changed, one_more)
                    self.assertIsNotNone(found)
                    self.assert_same(found, apart(house_of(changed.history(), base=base), house_of(one_more.history(), base=base)))
                    self.assert_same(snapshot(other), snapshot(fresh[1]))

    def test_the_same_after_many_texts(self):
        for most in (0, 1, 3, 6):
            with mock.patch.object(places, "MOST_TEXTS", most), mock.patch.object(places, "MOST_PREVIEWS", 2):
                history = some_history(1230 + most, 3, 50)
                h = House()
                for at, deed in enumerate(history):
                    do_entry(h, deed)
                    new = house_of(history[:at + 1])
                    for text in told_texts(history)[:4]:
                        self.assert_same(h.preview("g", text), new.preview("g", text))
                        self.assertEqual(h == new.twin(), True)
                    twin = h.twin()
                    twin.tell("f", ONE)
                    self.assert_same(apart(h, twin), apart(new, house_of(twin.history())))
                    self.assert_same(snapshot(h), snapshot(new))

    def test_not_all_texts_are_remembered(self):
        h = house_of([("tell", "f", LOOP), ("begin", "f", 0), ("tell", "f", ()), ("begin", "f", 1)])
        wanted = snapshot(h)
        for k in range(700):
            text = tuple(("say", k // 3 ** at % 3) for at in range(6))
            self.assertEqual(h.preview("g", text), [(0, 1, None), (1, 1, 0)])
            self.assertLessEqual(len(h.survey.lore.sheets), places.MOST_TEXTS + 20)
            self.assertLessEqual(len(h.survey.previews), places.MOST_PREVIEWS)
        self.assert_same(snapshot(h), wanted)


class Wrong(HouseCase):
    def test_equal_but_not_the_same(self):
        # True equals 1, but a text with True is none, also if the one with 1 was told or asked for.
        spoiled = [(("say", True),) + ONE[1:], (ONE[0], ("if", "x", False, 1), ONE[2]), ONE[:2] + (("end", True),)]
        for base in BASES:
            h = House(base=base)
            h.tell("f", ONE)
            h.begin("f", 1)
            h.preview("f", ONE)
            h.preview("g", ONE)
            for text in spoiled:
                self.assertTrue(text == ONE and not same(text, ONE))
                for name in ("f", "g"):
                    self.assert_unchanged(h, NoRows, {}, "preview", name, text)
                    self.assert_unchanged(h, NoRows, {}, "tell", name, text)
                    self.assert_unchanged(h, NoHistory, {"at": 1}, "play", [("put", 0, 1), ("tell", name, text)])
            self.assert_same(h.preview("g", ONE), [(0, 1, 0)])

    def test_a_history_that_fails_leaves_the_answers(self):
        for base in BASES:
            for seed in range(1224, 1230):
                history = some_history(seed, base, 40)
                h = House(base=base)
                for at, deed in enumerate(history):
                    before = snapshot(h)
                    self.assert_raises(NoHistory, {"at": len(history) - at}, h.play, history[at:] + [None])
                    self.assert_same(snapshot(h), before)
                    h.play([deed])
                self.assert_same(snapshot(h), snapshot(house_of(history, base=base)))

    def test_returned_lists_are_the_callers(self):
        h = large_house()
        for k in range(20):
            do_entry(h, step_of(h, k))
            wanted = snapshot(house_of(h.history(), base=4))
            for found in (h.kept(), h.standing(0), h.results(0, 1), h.preview("g", SHORT), h.history(), h.tape(0)):
                found.clear()
                found.append(None)
            self.assert_same(snapshot(h), wanted)


class Time(HouseCase):
    """Each bound is at most a third of what the same took here when every question was answered anew."""

    def assert_seconds(self, most, function):
        start = time.perf_counter()
        function()
        self.assertLess(time.perf_counter() - start, most)

    def test_a_large_house(self):
        h = large_house()

        def ask():
            for k in range(100):
                h.put(0, k % 4)
                h.standing(k % 6)
                h.preview("g", SHORT)

        self.assert_seconds(0.8, ask)

    def test_a_small_house(self):
        h = House()
        for k in range(3):
            h.tell("fgh"[k], LOOP[k:] + LOOP[:k])
        h.begin("f")
        h.begin("g")

        def ask():
            for k in range(300):
                h.put(0, k % 3)
                h.standing(k % 2)
                h.kept()
                h.preview("g", LOOP[:2] + (("end", 0),))

        self.assert_seconds(0.15, ask)

    def test_previews_of_many_texts(self):
        h = large_house()
        self.assert_seconds(0.45, lambda: [h.preview("g", T[:3] + (("say", k % 4), ("say", k // 4 % 4), ("write", k // 16 % 2, k // 32)))
                                          for k in range(100)])

    def test_a_house_and_its_twins(self):
        h = large_house()
        h.kept()

        def ask():
            for k in range(60):
                h.play([step_of(h, k)])
                twin = h.twin()
                self.assertEqual((twin.kept(), twin.standing(k % 6)), (h.kept(), h.standing(k % 6)))
                self.assertTrue(twin == h and are_alike(twin, h) and apart(h, twin) is None)

        self.assert_seconds(1.0, ask)

    def test_houses_with_other_texts(self):
        one, other = large_house(), large_house()
        one.tell("h", T[:15] + (("end", "y"),))
        other.tell("h", T[:15] + (("end", ("+", "y", 0)),))

        def ask():
            for k in range(60):
                deed = step_of(one, k)
                one.play([deed])
                other.play([deed])
                self.assertTrue(one == other and are_alike(other, one) and apart(one, other) is None)

        self.assert_seconds(0.4, ask)

    def test_two_desks(self):
        one, other = Desk(base=4), Desk(base=4)
        for k in range(8):
            rows = show_text(T[2 * k:] + T[:2 * k]).replace("\n", " / ")
            for desk in (one, other):
                desk.say(f"tell {'abcdefgh'[k]} {rows}")
        for desk in (one, other):
            for k in range(6):
                desk.say(f"begin {'abcdefgh'[k]} {k % 4}")

        def ask():
            for k in range(60):
                word, run, answer = step_of(one.house(), k)
                command = f"step {run}" if answer is None else f"answer {run} {answer}"
                for question in (command, "kept", f"standing {run}", f"latest {run} 1"):
                    self.assertEqual(one.say(question), other.say(question))
                self.assertTrue(one.house() == other.house())

        self.assert_seconds(0.9, ask)


if __name__ == "__main__":
    unittest.main()
