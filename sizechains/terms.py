"""Terms: pairs (f, power) that stand for the fraction f multiplied by the ratio R of a size to this power.

The powers of two terms that are compared here differ by 1 at most.
"""

from sizechains.exact import lowest_terms, order, product, quotient


def term_product(one, other):
    """Return the product of two terms."""
    top, bottom = lowest_terms(one[0][0] * other[0][0], one[0][1] * other[0][1])
    return ((top, bottom), one[1] + other[1])


def term_quotient(one, other):
    """Return one divided by other."""
    top, bottom = lowest_terms(one[0][0] * other[0][1], one[0][1] * other[0][0])
    return ((top, bottom), one[1] - other[1])


def value_at(term, ratio):
    """Return the fraction that the term stands for at this ratio."""
    number, power = term
    if power == 1:
        return product(number, ratio)
    if power == -1:
        return quotient(number, ratio)
    return number


def meeting(one, other):
    """Return the only ratio at which two terms are equal, None if there are none or many."""
    difference = one[1] - other[1]
    if difference == 0:
        return None
    if difference < 0:
        one, other = other, one
    return lowest_terms(other[0][0] * one[0][1], other[0][1] * one[0][0])


def order_at(one, other, ratio):
    """Return -1, 0 or 1 if at this ratio one is less than, equal to or greater than other."""
    left = one[0][0] * other[0][1]
    right = other[0][0] * one[0][1]
    if one[1] > other[1]:
        left, right = left * ratio[0], right * ratio[1]
    elif one[1] < other[1]:
        left, right = left * ratio[1], right * ratio[0]
    return order(left, right)


def lesser_at(one, other, ratio):
    """Return the term that is less at this ratio."""
    return other if order_at(one, other, ratio) > 0 else one


def greater_at(one, other, ratio):
    """Return the term that is greater at this ratio."""
    return other if order_at(one, other, ratio) < 0 else one
