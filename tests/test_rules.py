"""Point 2 and the interface: how everything is called, and that nothing is changed."""

import copy
import inspect
import unittest

from callsover import alike, desk, house, rests, shown, stands, texts
from tests.helpers import BASES, Case, some_texts

NEEDED = inspect.Parameter.empty

# (module, name, parameters by position or name, parameters by name only with their defaults)
INTERFACE = (
    (texts, "is_text", ("thing",), {"base": 3}),
    (texts, "show_text", ("text",), {}),
    (texts, "read_text", ("string",), {"base": 3}),
    (stands, "first_stand", ("text", "argument"), {"base": 3}),
    (stands, "stands_of", ("text",), {"base": 3}),
    (stands, "deed_of", ("text", "stand"), {"base": 3}),
    (stands, "branch_count", ("deed",), {"base": 3}),
    (stands, "walk", ("text", "stand", "path"), {"base": 3}),
    (rests, "parting", ("text", "stand", "other_text", "other_stand"), {"base": 3}),
    (rests, "paper", ("text", "stand", "other_text", "other_stand"), {"base": 3}),
    (rests, "lets_by", ("claim", "text", "stand", "other_text", "other_stand"), {"base": 3}),
    (rests, "least_table", ("text", "stand"), {"base": 3}),
)

# The same for what takes houses, and for what is made of a history.
HOUSES = (
    (house, "house_of", ("history",), {"base": 3}),
    (alike, "view", ("house",), {}),
    (alike, "are_alike", ("one", "other"), {}),
    (alike, "apart", ("one", "other"), {}),
    (shown, "show_deed", ("deed",), {}),
    (shown, "show_place", ("place",), {}),
    (shown, "show_class", ("entry",), {}),
)

# (method, parameters by position or name with their defaults, parameters by name only with theirs)
METHODS = {
    house.House: (
        ("__init__", {}, {"base": 3}),
        ("tell", {"name": NEEDED, "text": NEEDED}, {}),
        ("drop", {"name": NEEDED}, {}),
        ("begin", {"name": NEEDED, "argument": 0}, {}),
        ("step", {"run": NEEDED}, {"answer": None}),
        ("stop", {"run": NEEDED}, {}),
        ("put", {"cell": NEEDED, "value": NEEDED}, {}),
        ("deed", {"run": NEEDED}, {}),
        ("height", {"run": NEEDED}, {}),
        ("result", {"run": NEEDED}, {}),
        ("tape", {"run": NEEDED}, {}),
        ("names", {}, {}),
        ("runs", {}, {}),
        ("cells", {}, {}),
        ("text", {"name": NEEDED}, {}),
        ("history", {}, {}),
        ("standing", {"run": NEEDED}, {}),
        ("kept", {}, {}),
        ("results", {"run": NEEDED, "depth": NEEDED}, {}),
        ("latest", {"run": NEEDED, "depth": NEEDED}, {}),
        ("ring", {"run": NEEDED, "depth": NEEDED}, {}),
        ("preview", {"name": NEEDED, "text": NEEDED}, {}),
        ("play", {"history": NEEDED}, {}),
        ("twin", {}, {}),
        ("__eq__", {"other": NEEDED}, {}),
        ("__len__", {}, {}),
        ("__str__", {}, {}),
        ("__repr__", {}, {}),
    ),
    desk.Desk: (
        ("__init__", {}, {"base": 3}),
        ("say", {"command": NEEDED}, {}),
        ("house", {}, {}),
    ),
}

TEXT = (("ask", "x"), ("if", "x", 0, 3), ("say", ("+", "x", 1)))
OTHER = (("ask", "x"), ("if", "x", 0, 3), ("say", ("+", 1, "x")))

# A value for each parameter, and what comes back for the default base and for another one.
VALUES = {
    "thing": TEXT, "text": TEXT, "string": "ask x\nsay x", "argument": 1, "stand": (0, 0, 0), "deed": ("ask",),
    "path": [1, 0], "other_text": OTHER, "other_stand": (0, 1, 1), "claim": ("apart", ()),
}


class Interface(Case):
    def test_each_name_with_its_parameters(self):
        for module, name, plain, by_name in INTERFACE + HOUSES:
            found = inspect.signature(getattr(module, name)).parameters
            self.assertEqual(list(found), list(plain) + list(by_name), name)
            for parameter in plain:
                self.assertEqual(found[parameter].kind, inspect.Parameter.POSITIONAL_OR_KEYWORD)
                self.assertIs(found[parameter].default, NEEDED)
            for parameter, default in by_name.items():
                self.assertEqual(found[parameter].kind, inspect.Parameter.KEYWORD_ONLY)
                self.assert_same(found[parameter].default, default)

    def test_each_is_defined_where_it_is_listed(self):
        for module, name, _, _ in INTERFACE + HOUSES:
            function = getattr(module, name)
            self.assertTrue(inspect.isfunction(function))
            self.assertEqual((function.__module__, function.__name__), (module.__name__, name))
        self.assertEqual(house.House.__module__, "callsover.house")
        self.assertEqual(desk.Desk.__module__, "callsover.desk")

    def test_each_method_stands_in_its_class(self):
        for made, methods in METHODS.items():
            for name, plain, by_name in methods:
                self.assertIn(name, vars(made))
                self.assertTrue(inspect.isfunction(vars(made)[name]))
                first, *found = inspect.signature(vars(made)[name]).parameters.values()
                wanted = [(p, inspect.Parameter.POSITIONAL_OR_KEYWORD, d) for p, d in plain.items()]
                wanted += [(p, inspect.Parameter.KEYWORD_ONLY, d) for p, d in by_name.items()]
                self.assertEqual([(p.name, p.kind, p.default) for p in found], wanted, name)

    def test_methods_by_position_and_by_name(self):
        rows = (("ask", "x"), ("say", "x"))
        one, other = house.House(base=3), house.House()
        for method, values in (
            ("tell", {"name": "f", "text": rows}), ("begin", {"name": "f", "argument": 1}), ("begin", {"name": "f"}),
            ("step", {"run": 0, "answer": 2}), ("put", {"cell": 1, "value": 2}), ("stop", {"run": 1}),
            ("deed", {"run": 0}), ("height", {"run": 0}), ("result", {"run": 1}), ("tape", {"run": 0}),
            ("text", {"name": "f"}), ("standing", {"run": 0}), ("results", {"run": 0, "depth": 1}),
            ("latest", {"run": 0, "depth": 1}), ("ring", {"run": 0, "depth": 1}), ("preview", {"name": "f", "text": ()}),
            ("play", {"history": [("put", 0, 1)]}), ("drop", {"name": "f"}), ("history", {}),
        ):
            by_position = [value for name, value in values.items() if name != "answer"]
            more = {"answer": values["answer"]} if "answer" in values else {}
            self.assert_same(getattr(one, method)(**values), getattr(other, method)(*by_position, **more), method)
        self.assertRaises(TypeError, one.step, 0, None)
        self.assertRaises(TypeError, house.House, 3)
        self.assertRaises(TypeError, desk.Desk, 3)
        self.assertRaises(TypeError, house.house_of, [], 3)
        self.assert_same(alike.apart(one=one, other=other), alike.apart(one, other))
        self.assert_same(alike.are_alike(other=other, one=one), True)

    def test_by_position_and_by_name(self):
        for module, name, plain, by_name in INTERFACE:
            function = getattr(module, name)
            values = [VALUES[parameter] for parameter in plain]
            named = dict(zip(plain, values))
            by_position = function(*values)
            self.assert_same(function(**named), by_position, name)
            self.assert_same(function(**dict(reversed(list(named.items())))), by_position, name)
            if by_name:
                self.assert_same(function(*values, base=3), by_position, name)
                self.assert_same(function(base=3, **named), by_position, name)
                self.assertRaises(TypeError, function, *values, 3)


class NothingIsChanged(Case):
    def calls(self, base):
        for text in some_texts(20, base, seed=11) + [TEXT]:
            stand = stands.stands_of(text, base=base)[-1]
            for module, name, plain, by_name in INTERFACE:
                values = dict(VALUES, text=text, thing=[list(row) for row in text], stand=stand, path=[],
                              other_text=text, claim=["alike", [[stand, stand]]], string="say 1")
                yield getattr(module, name), [values[p] for p in plain], {p: base for p in by_name}

    def test_arguments_stay_as_they_were(self):
        for base in BASES:
            for function, values, more in self.calls(base):
                before = copy.deepcopy(values)
                try:
                    function(*values, **more)
                except ValueError:
                    pass
                self.assert_same(values, before, function)

    def test_a_path_stays_as_it_was(self):
        path = [2, 0]
        stands.walk(TEXT, (0, 0, 0), path)
        self.assert_same(path, [2, 0])
        self.assertRaises(IndexError, stands.walk, TEXT, (0, 0, 0), path + [0])

    def test_returned_lists_are_new(self):
        def spoil(found):
            found.append("more")
            found[0] = "spoiled"
            found.reverse()
        makers = (
            lambda: stands.stands_of(TEXT),
            lambda: stands.walk(TEXT, (0, 0, 0), [1, 0]),
            lambda: stands.walk(TEXT, (0, 0, 0), []),
            lambda: rests.parting(TEXT, (0, 0, 0), (("ask", "x"), ("say", 0)), (0, 0, 0)),
            lambda: rests.least_table(TEXT, (0, 0, 0)),
            lambda: rests.least_table((), (0, 0, 0)),
        )
        for make in makers:
            first = make()
            wanted = copy.deepcopy(first)
            self.assertIsInstance(first, list)
            later = make()
            spoil(first)
            self.assert_same(later, wanted)
            self.assert_same(make(), wanted)

    def test_an_empty_parting_is_a_new_list(self):
        first = rests.parting((), (0, 0, 0), (), stands.MUTE)
        self.assert_same(first, [])
        first.append(1)
        self.assert_same(rests.parting((), (0, 0, 0), (), stands.MUTE), [])

    def test_the_path_that_is_walked_and_the_list_that_is_returned_are_two(self):
        path = []
        stands.walk(TEXT, (0, 0, 0), path).append(1)
        self.assertEqual(path, [])

    def test_equal_calls_return_the_same(self):
        for base in BASES:
            for function, values, more in self.calls(base):
                answers = []
                for _ in range(2):
                    try:
                        answers.append(function(*values, **more))
                    except ValueError as error:
                        answers.append(type(error).__name__)
                self.assert_same(answers[0], answers[1])


if __name__ == "__main__":
    unittest.main()
