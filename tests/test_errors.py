"""callsover/errors.py: each class, the class above it, and its fields."""

import unittest

from callsover import errors
from tests.helpers import Case

# (class, the class directly above it, fields)
CLASSES = (
    ("NoBase", ValueError, ("base",)),
    ("NoText", ValueError, ("row",)),
    ("NoRows", ValueError, ()),
    ("NoStand", ValueError, ()),
    ("NoName", ValueError, ("name",)),
    ("NoNumber", ValueError, ("number",)),
    ("NoHistory", ValueError, ("at",)),
    ("NoCommand", ValueError, ()),
    ("NoPart", KeyError, ("name",)),
    ("NoRun", KeyError, ("run",)),
    ("NoBranch", IndexError, ("at",)),
    ("NoCell", IndexError, ("cell",)),
    ("NoDepth", IndexError, ("depth",)),
    ("NoAnswer", LookupError, ("run",)),
    ("NotAsked", RuntimeError, ("run",)),
    ("Over", RuntimeError, ("run",)),
)


class Errors(Case):
    def test_each_class_stands_directly_under_its_class(self):
        for name, above, _ in CLASSES:
            made = getattr(errors, name)
            self.assertEqual(made.__bases__, (above,), name)
            self.assertEqual(made.__module__, "callsover.errors")
            self.assertEqual(made.__name__, name)

    def test_none_is_under_another(self):
        for name, _, _ in CLASSES:
            for other, _, _ in CLASSES:
                if name != other:
                    self.assertFalse(issubclass(getattr(errors, name), getattr(errors, other)), (name, other))

    def test_no_class_is_missing_and_none_is_added(self):
        found = sorted(name for name, value in vars(errors).items() if isinstance(value, type))
        self.assertEqual(found, sorted(name for name, _, _ in CLASSES))

    def test_fields_by_position_and_by_name(self):
        for name, _, fields in CLASSES:
            made = getattr(errors, name)
            for value in (0, -1, "f", None, [1, (2,)], True):
                values = [value for _ in fields]
                for error in (made(*values), made(**dict(zip(fields, values)))):
                    self.assertEqual(sorted(vars(error)), sorted(fields), name)
                    for field in fields:
                        self.assert_same(getattr(error, field), value, name)

    def test_the_fields_are_needed(self):
        for name, _, fields in CLASSES:
            if fields:
                self.assertRaises(TypeError, getattr(errors, name))
                self.assertRaises(TypeError, getattr(errors, name), 1, 2)

    def test_each_is_raised_and_caught_by_its_class(self):
        for name, above, fields in CLASSES:
            made = getattr(errors, name)
            with self.assertRaises(above):
                raise made(*[1 for _ in fields])


if __name__ == "__main__":
    unittest.main()
