"""What several tests share: refused calls, wrong values, examples of the document."""

import unittest

from sizechains.errors import InvalidText
from sizechains.sizes import Size

FORTY = 10 ** 39 + 7
LONG = int("7" * 1999 + "1")

# Neither integers, nor fractions, nor texts of anything.
WRONG_VALUES = (
    None, True, False, 0, -1, -FORTY, b"1", object(), len, int, (), [], {}, set(),
    (1,), (1, 2, 3), (3, 2, 1), [1, 2], [3, 2], {1: 2}, {3, 2},
    (0, 1), (1, 0), (0, 0), (-1, 2), (1, -2), (-1, -2),
    (True, 2), (1, True), (True, True), (False, 1), (3, False), (None, 1), (1, None),
    (2, 2), (6, 4), (4, 6), (2 * FORTY, 2), (3 * LONG, 3 * FORTY),
    ("1", "2"), ("3", 2), (3, "2"), ((1, 2), 3), (3, (1, 2)), ((1, 2), (3, 4)), ([1], 2), ((), 1),
    Size(3, 2), (Size(3, 2), 1), (1, Size(3, 2)), (Size(3, 2), Size(3, 2)), InvalidText("3"), Size,
)
WRONG_FRACTIONS = WRONG_VALUES + (1, 3, FORTY, "", "3", "3/2", "3x2")
WRONG_SIDES = WRONG_VALUES + ("", "3", "3/2", "3x2")


NO_SIZES = (
    None, True, False, 0, 8, (8, 6), ((8, 1), (6, 1)), [8, 6], (Size(8, 6),), [Size(8, 6)], "", "8x6", b"8x6", {},
    set(), object(), Size, len, InvalidText("8x6"),
)


class ProgramTest(unittest.TestCase):
    """A test case that knows how the program refuses."""

    def assert_told(self, error_class, attribute, value, call, *args, **named):
        """The call raises exactly this class, with this one attribute."""
        with self.assertRaises(error_class) as caught:
            call(*args, **named)
        self.assertIs(type(caught.exception), error_class)
        self.assertEqual(vars(caught.exception), {attribute: value})

    def assert_refused(self, error_class, value, call, *args, **named):
        """The call raises exactly this class, with the very value as its one attribute."""
        with self.assertRaises(error_class) as caught:
            call(*args, **named)
        self.assertIs(type(caught.exception), error_class)
        self.assertEqual(list(vars(caught.exception)), ["value"])
        self.assertIs(caught.exception.value, value)


def outcome(expression, names):
    """Return what the document prints below the expression."""
    try:
        return repr(eval(expression, names))
    except (ValueError, LookupError, ArithmeticError) as error:
        told = ", ".join(f"{name}={value!r}" for name, value in vars(error).items())
        return f"raises {type(error).__name__}({told})"


def run_example(text):
    """Perform the lines behind the prompts; return the outcome of the last one and the line below it."""
    lines = text.strip().splitlines()
    *statements, expression, expected = [line.removeprefix(">>> ") for line in lines]
    names = {}
    for statement in statements:
        exec(statement, names)
    return outcome(expression, names), expected
