"""Fractions: pairs of positive integers without a common divisor above 1."""

from sizechains.errors import InvalidFraction, InvalidText


def is_integer(value):
    """Return True if the value is an integer, otherwise False."""
    # True and False are ints for Python, but no integers for this program.
    return isinstance(value, int) and not isinstance(value, bool)


def is_positive(value):
    """Return True if the value is a positive integer, otherwise False."""
    return is_integer(value) and value > 0


def common_divisor(one, other):
    """Return the greatest common divisor of two positive integers."""
    while other > 0:
        one, other = other, one % other
    return one


def lowest_terms(top, bottom):
    """Return the fraction top divided by bottom, which are positive integers."""
    divisor = common_divisor(top, bottom)
    return (top // divisor, bottom // divisor)


def is_fraction(value):
    """Return True if the value is a fraction, otherwise False."""
    if not isinstance(value, tuple) or len(value) != 2:
        return False
    top, bottom = value
    if not is_positive(top) or not is_positive(bottom):
        return False
    return common_divisor(top, bottom) == 1


def check_fractions(values):
    """Raise InvalidFraction with the first of the values that is not a fraction."""
    for value in values:
        if not is_fraction(value):
            raise InvalidFraction(value)


def fraction(top, bottom=1):
    """Return the fraction top divided by bottom."""
    for part in (top, bottom):
        if not is_positive(part):
            raise InvalidFraction(part)
    return lowest_terms(top, bottom)


def as_fraction(side):
    """Return the fraction that a positive integer or a fraction stands for."""
    if is_positive(side):
        return (side, 1)
    check_fractions((side,))
    return side


def product(*fractions):
    """Return the product of the fractions, (1, 1) if there are none."""
    check_fractions(fractions)
    top, bottom = 1, 1
    for factor in fractions:
        # Reduced at once, since otherwise the numbers of a long product grow without need.
        top, bottom = lowest_terms(top * factor[0], bottom * factor[1])
    return (top, bottom)


def quotient(one, other):
    """Return one divided by other."""
    check_fractions((one, other))
    return lowest_terms(one[0] * other[1], one[1] * other[0])


def order(left, right):
    """Return -1, 0 or 1 if the left integer is less than, equal to or greater than the right one."""
    if left < right:
        return -1
    if left > right:
        return 1
    return 0


def compare(one, other):
    """Return -1, 0 or 1 if one is less than, equal to or greater than other."""
    check_fractions((one, other))
    return order(one[0] * other[1], other[0] * one[1])


def lesser(one, other):
    """Return the lesser one of two fractions; if one of them is None, the other one."""
    if one is None:
        return other
    if other is None:
        return one
    return one if compare(one, other) < 0 else other


def greater(one, other):
    """Return the greater one of two fractions; if one of them is None, the other one."""
    if one is None:
        return other
    if other is None:
        return one
    return one if compare(one, other) > 0 else other


def is_within(number, low, high):
    """Return True if the fraction is neither below low nor above high; None means that there is no such limit."""
    if low is not None and compare(number, low) < 0:
        return False
    return high is None or compare(number, high) <= 0


def between(low, high):
    """Return a fraction above low and below high; None means that there is no such limit."""
    if low is None and high is None:
        return (1, 1)
    if low is None:
        return lowest_terms(high[0], high[1] * 2)
    if high is None:
        return lowest_terms(low[0] * 2, low[1])
    # Written this way, the fraction has few digits where the limits have few.
    return lowest_terms(low[0] + high[0], low[1] + high[1])


def format_fraction(number):
    """Return the written form of the fraction."""
    check_fractions((number,))
    top, bottom = number
    if bottom == 1:
        return f"{top}"
    return f"{top}/{bottom}"


def is_numeral(text):
    """Return True if the text consists of decimal digits, at least one, otherwise False."""
    # isdigit alone also takes the digits of other scripts.
    return text.isascii() and text.isdigit()


def find_fraction(text):
    """Return the fraction whose written form is the text, None if there is none."""
    if not isinstance(text, str):
        return None
    top, slash, bottom = text.partition("/")
    if slash == "":
        bottom = "1"
    if not is_numeral(top) or not is_numeral(bottom):
        return None
    number = (int(top), int(bottom))
    # Writing it again bars leading zeros and a bottom of 1 that is written out.
    if not is_fraction(number) or format_fraction(number) != text:
        return None
    return number


def parse_fraction(text):
    """Return the fraction whose written form is the text."""
    number = find_fraction(text)
    if number is None:
        raise InvalidText(text)
    return number
