"""Sizes (promises 7 and 8)."""

import copy
import unittest

from sizechains.errors import InvalidFraction, InvalidText
from sizechains.exact import compare, format_fraction, fraction, is_fraction, product, quotient
from sizechains.sizes import Size
from tests.helper import FORTY, LONG, WRONG_SIDES, ProgramTest

SIDES = [1, 2, 3, (1, 2), (3, 2), (9, 2), (FORTY, FORTY + 1), (FORTY + 1, FORTY + 2), FORTY, (LONG, LONG + 1)]
SIZES = [Size(width, height) for width in SIDES for height in SIDES]
NO_SIZES = (
    None, True, 0, 1, 3, (3, 2), ((8, 1), (9, 2)), [(8, 1), (9, 2)], {"width": (8, 1)}, "8x9/2", "Size(8x9/2)",
    b"8x9/2", object(), Size, InvalidText("8x9/2"),
)


class Lookalike:
    """Has the attributes of a size, but is none."""

    def __init__(self, width, height):
        self.width = width
        self.height = height


class Agreeable:
    """Claims to be equal to everything."""

    def __eq__(self, other):
        return True

    def __ne__(self, other):
        return True


class CreationTest(ProgramTest):

    def test_sides(self):
        size = Size(8, (9, 2))
        self.assertEqual([size.width, size.height], [(8, 1), (9, 2)])
        self.assertEqual(vars(size), {"width": (8, 1), "height": (9, 2)})
        self.assertEqual([Size((1, 1), 1).width, Size((1, 1), 1).height], [(1, 1), (1, 1)])

    def test_large_sides(self):
        size = Size(FORTY, (LONG, LONG + 1))
        self.assertEqual([size.width, size.height], [(FORTY, 1), (LONG, LONG + 1)])

    def test_by_name(self):
        for size in (Size(width=8, height=(9, 2)), Size(height=(9, 2), width=8), Size(8, height=(9, 2))):
            self.assertEqual([size.width, size.height], [(8, 1), (9, 2)])

    def test_integer_and_pair_are_the_same_side(self):
        self.assertEqual(Size(8, 3), Size((8, 1), (3, 1)))
        self.assertEqual(Size((8, 1), 3), Size(8, (3, 1)))

    def test_refuses_sides(self):
        for value in WRONG_SIDES:
            with self.subTest(value=value):
                self.assert_refused(InvalidFraction, value, Size, value, 3)
                self.assert_refused(InvalidFraction, value, Size, (3, 2), value)
                self.assert_refused(InvalidFraction, value, Size, height=value, width=3)

    def test_refuses_the_width_first(self):
        for width, height in ((0, -1), (None, (6, 4)), ((6, 4), None), (True, False), ("8", "9"), ([8], (0, 1))):
            self.assert_refused(InvalidFraction, width, Size, width, height)
            self.assert_refused(InvalidFraction, width, Size, height=height, width=width)

    def test_ratio(self):
        for one in SIDES:
            for other in SIDES:
                size = Size(one, other)
                self.assertEqual(size.ratio, quotient(size.width, size.height))
                self.assertEqual(product(size.ratio, size.height), size.width)
        self.assertEqual([Size(8, (9, 2)).ratio, Size(6, 4).ratio, Size(4, 4).ratio], [(16, 9), (3, 2), (1, 1)])
        self.assertIsInstance(vars(Size)["ratio"], property)

    def test_turned(self):
        for size in SIZES:
            turned = size.turned()
            self.assertIsInstance(turned, Size)
            self.assertEqual([turned.width, turned.height], [size.height, size.width])
            self.assertEqual(turned.ratio, quotient((1, 1), size.ratio))
            self.assertEqual(turned.turned(), size)


class TextTest(ProgramTest):

    def test_text(self):
        for size, text in ((Size(8, (9, 2)), "8x9/2"), (Size(1, 1), "1x1"), (Size((3, 2), (1, 3)), "3/2x1/3"),
                           (Size((3, 2), 10), "3/2x10"), (Size(FORTY, 1), f"{FORTY}x1")):
            self.assertEqual(str(size), text)
            self.assertEqual(f"{size}", text)
            self.assertEqual(repr(size), f"Size({text})")
            self.assertEqual(Size.read(text), size)
            self.assertEqual([Size.read(text).width, Size.read(text).height], [size.width, size.height])

    def test_read_from_its_own_text(self):
        long = Size(product(*[(FORTY, FORTY + 1)] * 20), product(*[(FORTY + 2, FORTY)] * 20))
        for size in SIZES + [long, Size(int("9" * 998), (int("9" * 499), 10 ** 499))]:
            self.assertEqual(str(size), f"{format_fraction(size.width)}x{format_fraction(size.height)}")
            self.assertEqual(Size.read(str(size)), size)
            self.assertEqual(str(Size.read(str(size))), str(size))

    def test_read_by_name_and_off_an_object(self):
        self.assertEqual(Size.read(text="8x9/2"), Size(8, (9, 2)))
        self.assertEqual(Size(1, 1).read("8x9/2"), Size(8, (9, 2)))
        self.assertIsInstance(vars(Size)["read"], classmethod)

    def test_read_gives_the_class_that_is_asked(self):
        class Kept(Size):
            pass
        self.assertIs(type(Kept.read("8x9/2")), Kept)

    def test_texts_of_no_size(self):
        texts = (
            "", " ", "x", "xx", "8", "8x", "x9", "8xx9", "x8x9", "8x9x", "8x9x1", "8X9", "8*9", "8:9", "8,9", "8/9",
            " 8x9", "8x9 ", "8 x9", "8x 9", "8 x 9", "8x9\n", "0x9", "8x0", "0x0", "08x9", "8x09", "-8x9", "8x-9",
            "+8x9", "8x+9", "8_0x9", "8x9_0", "8.0x9", "8/1x9", "8x9/1", "6/4x9", "8x6/4", "8/x9", "/8x9",
            "8x9/", "8x/9",
            "8/0x9", "8x0/9", "8x9/2/2", "8x9/02", "8x9/-2", "axb", "8xb", "ax9", "Size(8x9)", "(8, 9)", "8x\u0669",
            "9" * 2000, "x" * 2000, "9" * 1000 + "x" + "0" * 999, "0" * 1000 + "x" + "9" * 999, "9" * 1999 + "x",
            "8" * 1000 + "x" + "8" * 499 + "/" + "4" * 499,
        )
        for text in texts:
            with self.subTest(text=text):
                self.assert_refused(InvalidText, text, Size.read, text)

    def test_values_that_are_no_texts(self):
        values = (None, True, 0, 8, (8, 9), ("8", "9"), ("8", "x", "9"), ["8x9"], b"8x9", {"8x9": 1}, object(),
                  Size(8, 9))
        for value in values:
            with self.subTest(value=value):
                self.assert_refused(InvalidText, value, Size.read, value)

    def test_refused_calls_leave_nothing_behind(self):
        self.assert_refused(InvalidText, "8x6/4", Size.read, "8x6/4")
        self.assertEqual(Size.read("8x3/2"), Size(8, (3, 2)))
        self.assert_refused(InvalidText, "8x3/2 ", Size.read, "8x3/2 ")
        self.assert_refused(InvalidFraction, True, Size, 1, True)
        self.assertEqual(str(Size(1, 1)), "1x1")


class EqualityTest(ProgramTest):

    def test_sizes(self):
        for one in SIZES:
            for other in SIZES:
                same = one.width == other.width and one.height == other.height
                self.assertIs(one == other, same)
                self.assertIs(one != other, not same)

    def test_equal_in_one_side(self):
        size = Size(8, (9, 2))
        for other in (Size(8, 9), Size(9, (9, 2)), Size((9, 2), 8), Size(8, (9, 4)), Size((8, 3), (9, 2))):
            self.assertIs(size == other, False)
            self.assertIs(size != other, True)
        self.assertIs(size == Size((8, 1), fraction(18, 4)), True)
        self.assertIs(size != Size((8, 1), fraction(18, 4)), False)

    def test_values_of_other_classes(self):
        size = Size(8, (9, 2))
        for value in NO_SIZES + (Lookalike((8, 1), (9, 2)), Agreeable()):
            self.assertIs(size == value, False)
            self.assertIs(size != value, True)
        for value in NO_SIZES + (Lookalike((8, 1), (9, 2)),):
            self.assertIs(value == size, False)
            self.assertIs(value != size, True)


class FittingTest(ProgramTest):

    def test_sizes(self):
        for one in SIZES:
            for other in SIZES:
                fits = compare(one.width, other.width) <= 0 and compare(one.height, other.height) <= 0
                self.assertIs(one in other, fits)
                self.assertIs(one not in other, not fits)

    def test_one_side_too_great(self):
        size = Size(8, (9, 2))
        for other in (Size(8, (9, 2)), Size(4, 3), Size(8, 4), Size(7, (9, 2)), Size((1, 9), (1, 9))):
            self.assertIs(other in size, True)
        for other in (Size(9, (9, 2)), Size(8, 5), Size((81, 10), 1), Size(1, (23, 5)), Size(9, 9)):
            self.assertIs(other in size, False)

    def test_neighbours(self):
        for n in (1, FORTY, LONG):
            low, high = (n, n + 1), (n + 1, n + 2)
            self.assertIs(Size(low, high) in Size(high, high), True)
            self.assertIs(Size(high, low) in Size(high, high), True)
            self.assertIs(Size(high, high) in Size(low, high), False)
            self.assertIs(Size(high, high) in Size(high, low), False)

    def test_goes_on_from_one_to_the_next(self):
        few = [Size(width, height) for width in (1, 2, (3, 2)) for height in (1, 2, (3, 2))]
        for one in few:
            self.assertIs(one in one, True)
            for other in few:
                self.assertIs(one in other and other in one, one == other)
                for third in few:
                    if one in other and other in third:
                        self.assertIs(one in third, True)

    def test_values_of_other_classes(self):
        for value in NO_SIZES + (Lookalike((1, 1), (1, 1)), Agreeable(), (1, 1), (8, 1), (9, 2)):
            self.assertIs(value in Size(8, (9, 2)), False)
            self.assertIs(value not in Size(8, (9, 2)), True)


class ScalingTest(ProgramTest):

    def test_scaled(self):
        for size in SIZES:
            for factor in SIDES:
                scaled = size * factor
                by = factor if isinstance(factor, tuple) else (factor, 1)
                self.assertEqual([scaled.width, scaled.height], [product(size.width, by), product(size.height, by)])
                self.assertEqual(scaled.ratio, size.ratio)

    def test_integer_and_pair_are_the_same_factor(self):
        self.assertEqual(Size(8, (9, 2)) * 2, Size(16, 9))
        self.assertEqual(Size(8, (9, 2)) * (2, 1), Size(16, 9))
        self.assertEqual(Size(8, (9, 2)) * (1, 2), Size(4, (9, 4)))
        self.assertEqual(Size(8, (9, 2)) * 1, Size(8, (9, 2)))

    def test_scaled_back(self):
        for size in SIZES:
            for factor in SIDES:
                by = factor if isinstance(factor, tuple) else (factor, 1)
                self.assertEqual(size * factor * quotient((1, 1), by), size)

    def test_results_passed_on(self):
        size = Size(3, (1, 2))
        for _ in range(20):
            size = size * (FORTY, FORTY + 1)
        self.assertIs(is_fraction(size.width) and is_fraction(size.height), True)
        self.assertEqual(Size(size.width, size.height), size)
        self.assertEqual(size * quotient((3, 1), size.width), Size(3, (1, 2)))
        self.assertIs(size in Size(3, (1, 2)), True)

    def test_refuses_factors(self):
        for value in WRONG_SIDES:
            with self.subTest(value=value):
                self.assert_refused(InvalidFraction, value, lambda: Size(8, (9, 2)) * value)

    def test_in_place_gives_another_size(self):
        size = kept = Size(8, (9, 2))
        size *= 2
        self.assertEqual([str(size), str(kept)], ["16x9", "8x9/2"])


class ChangeTest(ProgramTest):

    def test_nothing_changes_a_size(self):
        size, other = Size(8, (9, 2)), Size(2, 3)
        for value in (2, (1, 2), 0, None, other, size):
            try:
                size * value
            except InvalidFraction:
                pass
            (size == value, size != value, value in size, str(size), repr(size), size.ratio, size.turned())
            self.assertEqual(vars(size), {"width": (8, 1), "height": (9, 2)})
            self.assertEqual(vars(other), {"width": (2, 1), "height": (3, 1)})
        self.assertEqual(Size.read(str(size)), Size.read(str(size)))

    def test_nothing_that_is_passed_is_changed(self):
        for value in ([3, 2], {"a": [1]}, ([3], 2)):
            before = copy.deepcopy(value)
            self.assert_refused(InvalidFraction, value, Size, value, value)
            self.assert_refused(InvalidText, value, Size.read, value)
            self.assert_refused(InvalidFraction, value, lambda: Size(1, 1) * value)
            self.assertIs(value in Size(1, 1) or value == Size(1, 1), False)
            self.assertEqual(value, before)

    def test_the_methods_stand_in_the_class(self):
        for name in ("__init__", "read", "ratio", "turned", "__eq__", "__contains__", "__mul__", "__str__", "__repr__"):
            self.assertIn(name, vars(Size))


if __name__ == "__main__":
    unittest.main()
