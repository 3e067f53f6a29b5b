"""Point 26: the desk, its commands and their answers."""

import unittest

from callsover.desk import Desk
from callsover.errors import NoAnswer, NoBase, NoCell, NoCommand, NoDepth, NoNumber, NoPart, NoRun, NotAsked, Over
from callsover.house import House
from tests.helpers import BASES, ODD_VALUES, HouseCase, snapshot
from tests.stories import some_history


def row_words(row):
    return " ".join(f"{item[1]}{item[0]}{item[2]}" if isinstance(item, tuple) else str(item) for item in row)


def rows_of(text):
    return " / ".join(row_words(row) for row in text) or "-"


def command_of(deed):
    """A deed of a history as a command."""
    if deed[0] == "tell":
        return f"tell {deed[1]} {rows_of(deed[2])}"
    if deed[0] == "step":
        return f"step {deed[1]}" if deed[2] is None else f"answer {deed[1]} {deed[2]}"
    return " ".join(str(item) for item in deed)


def words(items):
    return " ".join(str(item) for item in items)


def place_words(place):
    if place is None:
        return "-"
    if place[0] == "waits":
        return "waits [" + ", ".join(place_words(entry) for entry in place[1]) + "]"
    return words(place[1:] if place[0] == "new" else place)


def class_words(entry):
    return words(entry[0]) + (" -> " + ", ".join(place_words(place) for place in entry[1]) if entry[1] else "")


class DeskCase(HouseCase):
    def assert_refused(self, desk, error, fields, command):
        before = snapshot(desk.house())
        self.assert_raises(error, fields, desk.say, command)
        self.assert_same(snapshot(desk.house()), before, command)

    def desk_with(self, *commands, base=3):
        desk = Desk(base=base)
        for command in commands:
            desk.say(command)
        return desk


class Commands(DeskCase):
    def test_by_hand(self):
        desk = Desk(base=2)
        for command, answer in (
            ("names", "none"), ("runs", "none"), ("cells", "0 0"), ("kept", "none"),
            ("tell f ask x / say x / end 0", "ok"), ("tell none -", "ok"), ("names", "f none"), ("text none", "-"),
            ("text f", "ask x / say x / end 0"), ("begin f 0", "0"), ("tape 0", "none"), ("runs", "0"), ("deed 0", "ask"),
            ("tell f ask x / say 0 / end 0", "ok"), ("standing 0", "kept 0"),
            ("kept", "ask -> f 1 0 0, kept 1; say 1 -> f 2 0 0"), ("latest 0 1", "2"), ("answer 0 1", "ask 1"),
            ("deed 0", "say 1"), ("step 0", "say 1"), ("standing 0", "f 2 0 0"), ("latest 0 1", "0"), ("step 0", "end 0"),
            ("tape 0", "1 ask 1; 1 say 1; 1 end 0"), ("runs", "none"), ("put 1 1", "ok"), ("cells", "0 1"),
            ("tell g read 1 x / call h x y / write 0 x-y / go 0", "ok"), ("begin g 1", "1"), ("begin f 1", "2"),
            ("runs", "1 2"), ("step 1", "read 1 1"), ("step 1", "call h 1"), ("standing 1", "waits [g 2 0 1, -]; f 2 0 0"),
            ("drop g", "ok"), ("latest 1 1", "never"), ("latest 1 2", "0"), ("deed 1", "end 0"), ("step 1", "end 0"),
            ("deed 1", "write 0 1"), ("step 1", "write 0 1"), ("cells", "1 1"), ("stop 1", "ok"), ("runs", "2"),
            ("tape 1", "1 read 1 1; 1 call h 1; 2 end 0; 1 write 0 1"), ("names", "f none"),
        ):
            self.assert_same(desk.say(command), answer, command)
        self.assert_same(desk.say(command="runs"), "2")

    def test_the_default_base_is_3(self):
        self.assert_same(repr(Desk().house()), "House(base=3, 0 parts, 0 runs)")
        self.assert_same(self.desk_with("tell f say 2").say("text f"), "say 2")
        self.assert_raises(NoCommand, {}, Desk().say, "tell f say 3")

    def test_no_base(self):
        for base in (0, 1, 5, True, None, "3", [3], 2.0, {}):
            self.assert_raises(NoBase, {"base": base}, Desk, base=base)

    def test_beside_a_house(self):
        for base in BASES:
            for seed in range(1000, 1012):
                desk, h = Desk(base=base), House(base=base)
                for deed in some_history(seed, base, 40):
                    returned = h.play([deed])[0]
                    answer = "ok" if returned is None else words(returned) if isinstance(returned, tuple) else str(returned)
                    self.assert_same(desk.say(command_of(deed)), answer, deed)
                    self.compare(desk, h)
                self.assert_same(snapshot(desk.house()), snapshot(h))

    def compare(self, desk, h):
        self.assert_same(desk.say("names"), words(h.names()) or "none")
        self.assert_same(desk.say("runs"), words(h.runs()) or "none")
        self.assert_same(desk.say("cells"), words(h.cells()))
        self.assert_same(desk.say("kept"), "; ".join(class_words(entry) for entry in h.kept()) or "none")
        for name in h.names():
            self.assert_same(desk.say(f"text {name}"), rows_of(h.text(name)))
        for run in range(len([deed for deed in h.history() if deed[0] == "begin"])):
            tape = "; ".join(f"{depth} {words(event)}" for depth, event in h.tape(run))
            self.assert_same(desk.say(f"tape {run}"), tape or "none")
        for run in h.runs():
            self.assert_same(desk.say(f"deed {run}"), words(h.deed(run)))
            self.assert_same(desk.say(f"standing {run}"), "; ".join(place_words(p) for p in h.standing(run)))
            for depth in range(1, h.height(run) + 1):
                latest = h.latest(run, depth)
                self.assert_same(desk.say(f"latest {run} {depth}"), "never" if latest is None else str(latest))

    def test_sixteen_rows(self):
        desk = Desk(base=4)
        rows = " / ".join(["say x+3"] * 15 + ["go 16"])
        self.assert_same(desk.say("tell abcdefgh " + rows), "ok")
        self.assert_same(desk.say("text abcdefgh"), rows)
        self.assert_refused(desk, NoCommand, {}, "tell f " + " / ".join(["say 0"] * 17))


class Refused(DeskCase):
    def a_desk(self):
        """Run 0 asks, run 1 says, run 2 is over, run 3 is stopped."""
        return self.desk_with("tell f ask x", "tell g say 1", "tell h end 1", "begin f 0", "begin g 0", "begin h 0",
                              "begin f 0", "step 2", "stop 3")

    def test_no_commands(self):
        good = ("tell f say 1 / end 0", "tell f -", "drop f", "stop 0", "put 0 1", "begin f 0", "step 1", "answer 0 1",
                "deed 0", "text f", "tape 0", "cells", "names", "runs", "standing 0", "kept", "latest 0 1")
        desk = self.a_desk()
        for command in good:
            first, *rest = command.split(" ")
            wrong = [
                " " + command, command + " ", command + "\n", "\n" + command, command + " 0", command + " f", command + " -",
                command.capitalize(), command.upper(), command + "\t", first + "  " + " ".join(rest), "x" + command,
                command.replace(" ", "\t") + "\t", command.replace(" ", "  ") + " ", first + "s " + " ".join(rest),
                command + ";", command + "/", command + " /",
            ]
            if rest:
                wrong += [first, first + " ", command.replace(" ", "  "), command.replace(" ", "\n"), " ".join(rest)]
            if len(rest) == 2:
                wrong += [first + " " + rest[0], first + " " + rest[1], first + " " + " ".join(rest[::-1]) + " 0"]
            for spoiled in wrong:
                if spoiled not in good:
                    self.assert_refused(desk, NoCommand, {}, spoiled)

    def test_numbers(self):
        desk = self.a_desk()
        for number in ("00", "01", "007", "1000", "0000", "9999", "+1", "-1", "1.0", "x", "True", "None", "1_0", "0x1", "\u0661",
                       "\u00b2", "1\n", "", "10 0", "a1"):
            for command in (f"stop {number}", f"put {number} 0", f"put 0 {number}", f"begin f {number}", f"step {number}",
                            f"answer {number} 0", f"answer 0 {number}", f"deed {number}", f"tape {number}", f"standing {number}",
                            f"latest {number} 1", f"latest 0 {number}"):
                self.assert_refused(desk, NoCommand, {}, command)

    def test_names(self):
        desk = self.a_desk()
        for name in ("F", "f1", "abcdefghi", "1", "-", "f_", "f\n", "\u00e9", "f/", "[]", "/"):
            for command in (f"tell {name} say 1", f"tell {name} -", f"drop {name}", f"begin {name} 0", f"text {name}"):
                self.assert_refused(desk, NoCommand, {}, command)

    def test_rows(self):
        desk = self.a_desk()
        for rows in ("", " ", "/", " / ", "- / -", "say 1 / -", "- / say 1", "--", "say", "say 3", "say 01", "say x + 1",
                     "say 1/end 0", "say 1 /end 0", "say 1/ end 0", "say 1 / / end 0", "say 1 /", "/ say 1", "say 1  / end 0",
                     "say 1 /  / end 0", "say 1\nend 0", "say 1 / end 0\n", "\nsay 1", "say 1 \n end 0", "Say 1", "go 2",
                     "if x 0 3 / say 1", "call F 0 x", "read 2 x", "ask z", "say 1 ", " say 1", "say 1; end 0", "say 1 // end 0",
                     "say 1, end 0", "end\n0", "say\n1"):
            self.assert_refused(desk, NoCommand, {}, "tell f " + rows)
        self.assert_same(desk.say("tell f if x 0 2 / say 1"), "ok")

    def test_values_that_are_no_strings(self):
        desk = self.a_desk()
        for value in ODD_VALUES + (["names"], ("names",), b"names", 0, ("step", 0)):
            self.assert_refused(desk, NoCommand, {}, value)
        for value in ("", " ", "\n", "help", "history", "height 0", "result 0", "results 0 1", "ring 0 1", "preview f -",
                      "play", "twin", "view", "step", "answer 0", "tell", "tell f"):
            self.assert_refused(desk, NoCommand, {}, value)

    def test_errors_of_the_house(self):
        desk = self.a_desk()
        for command, error, fields in (
            ("drop z", NoPart, {"name": "z"}), ("text z", NoPart, {"name": "z"}), ("begin z 9", NoPart, {"name": "z"}),
            ("begin f 3", NoNumber, {"number": 3}), ("begin f 999", NoNumber, {"number": 999}),
            ("put 2 9", NoCell, {"cell": 2}), ("put 999 0", NoCell, {"cell": 999}), ("put 0 3", NoNumber, {"number": 3}),
            ("step 4", NoRun, {"run": 4}), ("answer 999 9", NoRun, {"run": 999}), ("stop 4", NoRun, {"run": 4}),
            ("deed 4", NoRun, {"run": 4}), ("tape 4", NoRun, {"run": 4}), ("standing 4", NoRun, {"run": 4}),
            ("latest 4 0", NoRun, {"run": 4}), ("step 2", Over, {"run": 2}), ("step 3", Over, {"run": 3}),
            ("answer 2 9", Over, {"run": 2}), ("stop 3", Over, {"run": 3}), ("deed 2", Over, {"run": 2}),
            ("standing 3", Over, {"run": 3}), ("latest 2 0", Over, {"run": 2}), ("step 0", NoAnswer, {"run": 0}),
            ("answer 1 9", NotAsked, {"run": 1}), ("answer 0 3", NoNumber, {"number": 3}),
            ("latest 0 0", NoDepth, {"depth": 0}), ("latest 0 2", NoDepth, {"depth": 2}), ("latest 1 999", NoDepth, {"depth": 999}),
        ):
            self.assert_refused(desk, error, fields, command)
        self.assert_same(desk.say("tape 2"), "1 end 1")


class OwnHouse(DeskCase):
    def test_a_new_house_each_time_that_shares_nothing(self):
        for base in BASES:
            desk = self.desk_with("tell f ask x / say x", "begin f 0", base=base)
            one, other = desk.house(), desk.house()
            self.assertIsInstance(one, House)
            self.assertIsNot(one, other)
            before = snapshot(other)
            self.assert_same(snapshot(one), before)
            one.step(0, answer=1)
            one.tell("f", ())
            one.put(0, 1)
            self.assert_same(snapshot(other), before)
            self.assert_same(snapshot(desk.house()), before)
            desk.say("stop 0")
            self.assert_same(snapshot(other), before)
            self.assert_same(desk.house().runs(), [])

    def test_desks_side_by_side(self):
        one, other = Desk(), Desk()
        one.say("tell f -")
        self.assert_same((one.say("names"), other.say("names")), ("f", "none"))


if __name__ == "__main__":
    unittest.main()
