"""The error classes (promise 1)."""

import unittest

from sizechains import errors

BASES = {"PictureError": ValueError, "FindError": LookupError, "LimitError": ArithmeticError}
ATTRIBUTES = {
    "PictureError": {
        "InvalidFraction": "value", "InvalidSize": "value", "InvalidBox": "value", "InvalidKeep": "value",
        "InvalidTimes": "value", "InvalidStep": "value", "InvalidSteps": "index", "InvalidChain": "value",
        "InvalidText": "value", "InvalidKind": "value", "InvalidRecords": "index", "InvalidName": "value",
        "InvalidDeeds": "index", "InvalidLine": "value",
    },
    "FindError": {"NoStep": "value", "UnknownName": "value", "NameTaken": "value"},
    "LimitError": {"TooManySteps": "count", "TooManyDeeds": "count"},
}
CASES = [(base, name, told) for base, members in ATTRIBUTES.items() for name, told in members.items()]
VALUES = (None, True, 0, -1, 61, "", "x", (6, 4), [1], {"a": 1}, object(), errors.InvalidText)


def class_named(name):
    return vars(errors)[name]


class ErrorsTest(unittest.TestCase):

    def test_there_are_no_other_classes(self):
        found = {name for name, value in vars(errors).items() if isinstance(value, type)}
        self.assertEqual(found, {*BASES, *[name for _, name, _ in CASES], "NothingToUndo"})

    def test_base_classes(self):
        for name, base in BASES.items():
            self.assertEqual(class_named(name).__bases__, (base,), name)
        for base, name, _ in CASES + [("FindError", "NothingToUndo", None)]:
            self.assertEqual(class_named(name).__bases__, (class_named(base),), name)
            self.assertEqual(class_named(name).__module__, "sizechains.errors")

    def test_attribute_by_position_and_by_keyword(self):
        for _, name, attribute in CASES:
            for value in VALUES:
                with self.subTest(name=name, value=value):
                    for error in (class_named(name)(value), class_named(name)(**{attribute: value})):
                        self.assertEqual(list(vars(error)), [attribute])
                        self.assertIs(getattr(error, attribute), value)

    def test_attribute_is_needed_and_is_the_only_one(self):
        for _, name, attribute in CASES:
            with self.subTest(name=name):
                self.assertRaises(TypeError, class_named(name))
                self.assertRaises(TypeError, class_named(name), 1, 2)
                self.assertRaises(TypeError, class_named(name), 1, **{attribute: 1})
                self.assertRaises(TypeError, class_named(name), other=1)

    def test_nothing_to_undo_has_no_attribute(self):
        self.assertEqual(vars(errors.NothingToUndo()), {})

    def test_caught_by_the_base_class_alone(self):
        for base, name, _ in CASES:
            error = class_named(name)(1)
            for other in BASES:
                self.assertEqual(isinstance(error, class_named(other)), other == base, (name, other))
                self.assertEqual(isinstance(error, BASES[other]), other == base, (name, other))


if __name__ == "__main__":
    unittest.main()
