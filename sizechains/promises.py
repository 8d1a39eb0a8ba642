"""Promises about all results of a chain: they fit into a box, they cover it, they keep within limits."""

from sizechains.chains import check_chain
from sizechains.exact import compare, greater, lesser, product, quotient
from sizechains.sizes import Size
from sizechains.tables import (
    bound_of, extreme, extreme_sides, far_ratios, place_in, ratio_term, side_terms, size_before, table_of)
from sizechains.terms import meeting, value_at


def size_beyond_in(row, box, sign):
    """Return a size of the row whose result has a side that compares to that of the box as the sign says, or None."""
    bound = bound_of(row, sign)
    if bound is None:
        # Without a bound heights are as great, or as small, as one likes.
        height = product(box.height, (2, 1)) if sign > 0 else quotient(box.height, (2, 1))
        return size_before(row, place_in(row), height)
    for term, side in zip(side_terms(row, bound), (box.width, box.height)):
        # Terms grow or fall all the way, so one that passes the side does so at an end, or beyond where it meets it.
        for ratio in far_ratios(row, meeting(term, (side, 0))):
            if compare(value_at(term, ratio), side) == sign:
                return size_before(row, ratio, value_at(bound, ratio))
    return None


def size_beyond(chain, box, sign):
    """Return a size whose result has a side above (sign 1) or below (sign -1) that of the box, or None."""
    for row in table_of(chain.steps):
        size = size_beyond_in(row, box, sign)
        if size is not None:
            return size
    return None


def misfit(chain, width, height):
    """Return a size whose result does not fit into the box, None if there is none."""
    check_chain(chain)
    return size_beyond(chain, Size(width, height), 1)


def gap(chain, width, height):
    """Return a size whose result has a width or a height below that of the box, None if there is none."""
    check_chain(chain)
    return size_beyond(chain, Size(width, height), -1)


def always_fits(chain, width, height):
    """Return True if all results of the chain fit into the box, otherwise False."""
    return misfit(chain, width, height) is None


def always_covers(chain, width, height):
    """Return True if no result of the chain has a width or a height below that of the box, otherwise False."""
    return gap(chain, width, height) is None


def extreme_of_all(numbers, sign):
    """Return the greatest (sign 1) or the least (sign -1) of the numbers, None if there is a None among them."""
    found = None
    for number in numbers:
        if number is None:
            return None
        found = greater(found, number) if sign > 0 else lesser(found, number)
    return found


def limits_of(chain):
    """Return the least and the greatest width, height and ratio of all results, each None if there is none."""
    check_chain(chain)
    rows = table_of(chain.steps)
    limits = []
    for side in (0, 1):
        for sign in (-1, 1):
            limits.append(extreme_of_all([extreme_sides(row, sign)[side] for row in rows], sign))
    for sign in (-1, 1):
        limits.append(extreme_of_all([extreme(row, ratio_term(row), sign) for row in rows], sign))
    return tuple(limits)
