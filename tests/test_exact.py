"""Fractions (promises 2 to 6 and 8)."""

import copy
import unittest
from fractions import Fraction
from math import gcd

from sizechains.errors import InvalidFraction, InvalidText
from sizechains.exact import (
    compare, format_fraction, fraction, greater, is_fraction, is_within, lesser, parse_fraction, product, quotient)
from sizechains.sizes import Size
from tests.helper import FORTY, LONG, WRONG_FRACTIONS, WRONG_SIDES, ProgramTest

SMALL = [(top, bottom) for top in range(1, 9) for bottom in range(1, 9) if gcd(top, bottom) == 1]
LARGE = [(FORTY, 1), (1, FORTY), (FORTY, FORTY + 1), (FORTY + 1, FORTY + 2), (10 ** 39, 3 ** 80), (LONG, LONG + 1)]
FRACTIONS = SMALL + LARGE


def as_pair(number):
    return (number.numerator, number.denominator)


class IsFractionTest(ProgramTest):

    def test_fractions(self):
        for number in FRACTIONS:
            self.assertIs(is_fraction(number), True, number)

    def test_other_values(self):
        for value in WRONG_FRACTIONS:
            self.assertIs(is_fraction(value), False, value)

    def test_every_small_pair(self):
        for top in range(-3, 13):
            for bottom in range(-3, 13):
                expected = top > 0 and bottom > 0 and gcd(top, bottom) == 1
                self.assertIs(is_fraction((top, bottom)), expected, (top, bottom))

    def test_true_does_not_stand_for_one(self):
        self.assertIs(is_fraction((1, 1)), True)
        self.assertIs(is_fraction((True, 1)), False)
        self.assertIs(is_fraction((1, True)), False)

    def test_by_name(self):
        self.assertIs(is_fraction(value=(3, 2)), True)

    def test_long_common_divisor(self):
        self.assertIs(is_fraction((LONG * 3, LONG * 2)), False)
        self.assertIs(is_fraction((LONG * 3, LONG * 3 + 1)), True)


class FractionTest(ProgramTest):

    def test_lowest_terms(self):
        for top in range(1, 30):
            for bottom in range(1, 30):
                self.assertEqual(fraction(top, bottom), as_pair(Fraction(top, bottom)))

    def test_without_a_bottom(self):
        for top in (1, 2, 12, FORTY, LONG):
            self.assertEqual(fraction(top), (top, 1))

    def test_large(self):
        self.assertEqual(fraction(6 * FORTY, 4 * FORTY), (3, 2))
        self.assertEqual(fraction(LONG * FORTY, LONG * (FORTY + 1)), (FORTY, FORTY + 1))

    def test_by_name(self):
        self.assertEqual(fraction(top=6, bottom=4), (3, 2))
        self.assertEqual(fraction(bottom=6, top=4), (2, 3))
        self.assertEqual(fraction(6, bottom=3), (2, 1))
        self.assertEqual(fraction(top=6), (6, 1))

    def test_refuses_what_is_not_a_positive_integer(self):
        for value in WRONG_SIDES + ((1, 1), (3, 2)):
            with self.subTest(value=value):
                self.assert_refused(InvalidFraction, value, fraction, value)
                self.assert_refused(InvalidFraction, value, fraction, value, 2)
                self.assert_refused(InvalidFraction, value, fraction, 2, value)
                self.assert_refused(InvalidFraction, value, fraction, 2, bottom=value)

    def test_refuses_the_top_first(self):
        for top, bottom in ((0, -1), (-1, 0), (None, True), (True, None), ("1", (1, 2))):
            self.assert_refused(InvalidFraction, top, fraction, top, bottom)
            self.assert_refused(InvalidFraction, top, fraction, bottom=bottom, top=top)

    def test_refused_calls_leave_nothing_behind(self):
        self.assertEqual(fraction(1, 1), (1, 1))
        self.assert_refused(InvalidFraction, True, fraction, True, 1)
        self.assertEqual(fraction(1, 1), (1, 1))
        self.assert_refused(InvalidFraction, True, fraction, 1, True)
        self.assertEqual(fraction(1, 1), (1, 1))


class ProductTest(ProgramTest):

    def test_none_and_one(self):
        self.assertEqual(product(), (1, 1))
        for number in FRACTIONS:
            self.assertEqual(product(number), number)

    def test_two(self):
        for one in FRACTIONS:
            for other in FRACTIONS:
                self.assertEqual(product(one, other), as_pair(Fraction(*one) * Fraction(*other)))

    def test_several(self):
        self.assertEqual(product((3, 2), (4, 1), (1, 6)), (1, 1))
        self.assertEqual(product((3, 2), (3, 2), (3, 2), (3, 2)), (81, 16))
        self.assertEqual(product(*[(n, n + 1) for n in range(1, 500)]), (1, 500))
        self.assertEqual(product(*[(FORTY, 3)] * 10), (FORTY ** 10, 3 ** 10))

    def test_result_passed_on(self):
        long = product(*[(FORTY, FORTY + 1)] * 20)
        self.assertIs(is_fraction(long), True)
        self.assertEqual(product(long, quotient((1, 1), long)), (1, 1))
        self.assertEqual(parse_fraction(format_fraction(long)), long)

    def test_refuses_the_first_that_is_no_fraction(self):
        for value in WRONG_FRACTIONS:
            with self.subTest(value=value):
                self.assert_refused(InvalidFraction, value, product, value)
                self.assert_refused(InvalidFraction, value, product, value, (1, 2))
                self.assert_refused(InvalidFraction, value, product, (1, 2), (3, 1), value)
                self.assert_refused(InvalidFraction, value, product, (1, 2), value, (2, 4), (3, 1))

    def test_refused_calls_leave_nothing_behind(self):
        self.assert_refused(InvalidFraction, (2, 4), product, (3, 2), (2, 4))
        self.assertEqual(product((3, 2), (2, 1)), (3, 1))
        self.assertEqual(product(), (1, 1))
        self.assert_refused(InvalidFraction, (True, 1), product, (True, 1))


class QuotientTest(ProgramTest):

    def test_quotients(self):
        for one in FRACTIONS:
            for other in FRACTIONS:
                self.assertEqual(quotient(one, other), as_pair(Fraction(*one) / Fraction(*other)))

    def test_quotient_times_divisor(self):
        for one in FRACTIONS:
            for other in FRACTIONS:
                self.assertEqual(product(quotient(one, other), other), one)

    def test_by_name(self):
        self.assertEqual(quotient(one=(3, 2), other=(3, 4)), (2, 1))
        self.assertEqual(quotient(other=(3, 2), one=(3, 4)), (1, 2))

    def test_refuses_one_then_other(self):
        check_refuses_one_then_other(self, quotient)


class CompareTest(ProgramTest):

    def test_order(self):
        for one in FRACTIONS:
            for other in FRACTIONS:
                left, right = Fraction(*one), Fraction(*other)
                self.assertEqual(compare(one, other), (left > right) - (left < right), (one, other))

    def test_results_are_integers(self):
        found = [compare((1, 2), (2, 3)), compare((2, 3), (2, 3)), compare((2, 3), (1, 2))]
        self.assertEqual([repr(value) for value in found], ["-1", "0", "1"])

    def test_neighbours(self):
        for n in (1, 2, 10 ** 17, FORTY, LONG):
            self.assertEqual(compare((n, n + 1), (n + 1, n + 2)), -1)
            self.assertEqual(compare((n + 1, n + 2), (n, n + 1)), 1)
            self.assertEqual(compare((n + 1, n), (n + 2, n + 1)), 1)
            self.assertEqual(compare((n, n + 1), (n, n + 1)), 0)

    def test_goes_on_from_one_to_the_next(self):
        for one in SMALL:
            for other in SMALL:
                self.assertEqual(compare(one, other), -compare(other, one))
                self.assertEqual(compare(one, other) == 0, one == other)
                for third in SMALL:
                    if compare(one, other) <= 0 and compare(other, third) <= 0:
                        self.assertLessEqual(compare(one, third), 0)

    def test_by_name(self):
        self.assertEqual(compare(one=(1, 2), other=(2, 3)), -1)
        self.assertEqual(compare(other=(1, 2), one=(2, 3)), 1)

    def test_refuses_one_then_other(self):
        check_refuses_one_then_other(self, compare)


def check_refuses_one_then_other(case, call):
    for value in WRONG_FRACTIONS:
        with case.subTest(value=value):
            case.assert_refused(InvalidFraction, value, call, value, (1, 2))
            case.assert_refused(InvalidFraction, value, call, (1, 2), value)
            case.assert_refused(InvalidFraction, value, call, other=value, one=(1, 2))
    for one, other in ((0, -1), (None, (6, 4)), ((6, 4), None), ((True, 1), (1, True)), (2, 3)):
        case.assert_refused(InvalidFraction, one, call, one, other)
        case.assert_refused(InvalidFraction, one, call, other=other, one=one)


class TextTest(ProgramTest):

    def test_written_form(self):
        for number, text in (((4, 1), "4"), ((1, 1), "1"), ((3, 2), "3/2"), ((1, 10), "1/10"), ((10, 1), "10")):
            self.assertEqual(format_fraction(number), text)
            self.assertEqual(parse_fraction(text), number)

    def test_read_from_its_own_text(self):
        for number in FRACTIONS + [(int("9" * 2000), 1), (int("9" * 999), 10 ** 999), (3 ** 2000, 2 ** 3000)]:
            text = format_fraction(number)
            self.assertIs(type(text), str)
            self.assertEqual(parse_fraction(text), number)
            self.assertEqual(format_fraction(parse_fraction(text)), text)

    def test_by_name(self):
        self.assertEqual(format_fraction(number=(3, 2)), "3/2")
        self.assertEqual(parse_fraction(text="3/2"), (3, 2))

    def test_format_refuses(self):
        for value in WRONG_FRACTIONS:
            with self.subTest(value=value):
                self.assert_refused(InvalidFraction, value, format_fraction, value)

    def test_texts_of_no_fraction(self):
        texts = (
            "", " ", "/", "//", "x", "-", "+", "_", ".", "0", "00", "-0", "-1", "+1", "--1", "- 1",
            " 1", "1 ", "1 2", "1_0", "1_000", "_1", "1_", "01", "007", "1.0", "1.5", "1e3", "0x1", "1,000",
            "1/", "/1", "/2", "1/1", "3/1", "0/1", "1/0", "0/0", "3/01", "03/2", "3/02", "3/+2", "+3/2", "-3/2",
            "3/-2", "-3/-2", "3 /2", "3/ 2", " 3/2", "3/2 ", "3/2/", "/3/2", "3//2", "3/2/1", "1/2/3", "3/2x",
            "3:2", "3\\2", "3x2", "(3, 2)", "3, 2", "3_0/2", "3/2_1", "three", "None", "True", "a/b", "a", "3/b",
            "6/4", "2/2", "4/2", "10/5", "6/3", f"{2 * FORTY}/{2 * FORTY + 2}", f"{FORTY}/1", f"0{FORTY}",
            "0" * 2000, "0" * 1999 + "1", "9" * 1999 + "a", "9" * 1999 + " ", "2" * 999 + "/" + "2" * 1000,
            "/" * 2000, "-" + "9" * 1999, "8" * 1500 + "/" + "4" * 499, "1\n", "\n1", "3/2\n", "\u0663", "\u00b2",
        )
        for text in texts:
            with self.subTest(text=text):
                self.assert_refused(InvalidText, text, parse_fraction, text)

    def test_every_text_of_three_signs(self):
        signs = "012468/ -+_x"
        accepted = {f"{n}" for n in range(1, 1000)}
        accepted |= {f"{top}/{bottom}" for top in range(1, 10) for bottom in range(2, 10) if gcd(top, bottom) == 1}
        for text in [one + two + three for one in signs for two in signs for three in signs]:
            if text in accepted:
                self.assertEqual(format_fraction(parse_fraction(text)), text)
            else:
                self.assert_refused(InvalidText, text, parse_fraction, text)

    def test_values_that_are_no_texts(self):
        values = (None, True, 0, 1, 3, FORTY, (), (3, 2), ("3/2",), ["3/2"], {"3/2": 1}, {"3"}, b"3/2", object(), str,
                  Size(3, 2), InvalidText("3"))
        for value in values:
            with self.subTest(value=value):
                self.assert_refused(InvalidText, value, parse_fraction, value)

    def test_refused_calls_leave_nothing_behind(self):
        self.assert_refused(InvalidText, "6/4", parse_fraction, "6/4")
        self.assertEqual(parse_fraction("3/2"), (3, 2))
        self.assert_refused(InvalidText, "3/2 ", parse_fraction, "3/2 ")
        self.assertEqual(parse_fraction("3/2"), (3, 2))
        self.assert_refused(InvalidFraction, (6, 4), format_fraction, (6, 4))
        self.assertEqual(format_fraction((3, 2)), "3/2")


class LimitTest(ProgramTest):

    def test_lesser_and_greater(self):
        for one in FRACTIONS:
            for other in FRACTIONS:
                pairs = sorted([one, other], key=lambda pair: Fraction(*pair))
                self.assertEqual([lesser(one, other), greater(one, other)], pairs)
            for call in (lesser, greater):
                self.assertEqual([call(one, None), call(None, one), call(None, None)], [one, one, None])

    def test_within(self):
        for number in SMALL[::3]:
            for low in [None] + SMALL[::4]:
                for high in [None] + SMALL[::5]:
                    expected = (low is None or Fraction(*low) <= Fraction(*number)) and \
                        (high is None or Fraction(*number) <= Fraction(*high))
                    self.assertIs(is_within(number, low, high), expected)


class CallsTest(ProgramTest):

    def test_equal_calls_return_equal_results(self):
        for _ in range(3):
            self.assertEqual(fraction(6, 4), (3, 2))
            self.assertEqual(product((3, 2), (4, 1)), (6, 1))
            self.assertEqual(quotient((3, 2), (3, 4)), (2, 1))
            self.assertEqual(compare((3, 2), (3, 4)), 1)
            self.assertEqual(format_fraction((3, 2)), "3/2")
            self.assertEqual(parse_fraction("3/2"), (3, 2))

    def test_results_are_plain_pairs(self):
        for number in (fraction(6, 4), fraction(3), product(), product((3, 2)), quotient((3, 2), (1, 2)),
                       parse_fraction("3/2"), parse_fraction("3")):
            self.assertEqual([type(number), type(number[0]), type(number[1])], [tuple, int, int])

    def test_nothing_that_is_passed_is_changed(self):
        for value in ([3, 2], [[1], 2], {"a": [1]}, {3, 2}, ([3], 2)):
            before = copy.deepcopy(value)
            self.assertIs(is_fraction(value), False)
            for call in (fraction, product, format_fraction):
                self.assert_refused(InvalidFraction, value, call, value)
            for call in (quotient, compare):
                self.assert_refused(InvalidFraction, value, call, value, value)
            self.assert_refused(InvalidText, value, parse_fraction, value)
            self.assertEqual(value, before)


if __name__ == "__main__":
    unittest.main()
