"""Comparing chains on all sizes at once."""

from sizechains.chains import check_chain
from sizechains.exact import between, lesser, product, quotient
from sizechains.sizes import Size
from sizechains.tables import result_by, table_of
from sizechains.terms import value_at


def check_both(chain, other):
    """Raise InvalidChain with the first of the two that is not a Chain."""
    check_chain(chain)
    check_chain(other)


def same_effect(chain, other):
    """Return True if the chains have the same effect, otherwise False."""
    check_both(chain, other)
    return table_of(chain.steps) == table_of(other.steps)


def overlaps(rows, others):
    """Return for each overlap of a row of one table with a row of the other one its limits and both rows."""
    found = []
    low = None
    passed = others_passed = 0
    # Both tables end together, since the last row of each has no upper limit.
    while passed < len(rows):
        row, other = rows[passed], others[others_passed]
        high = lesser(row[1], other[1])
        found.append((low, high, row, other))
        low = high
        if row[1] == high:
            passed += 1
        if other[1] == high:
            others_passed += 1
    return found


def turning_heights(row, ratio):
    """Return the old heights at which, at this ratio, the new height of the row begins or ceases to be a bound."""
    factor = row[3]
    if factor is None:
        return []
    scale = product(factor[0], ratio) if factor[1] == "width" else factor[0]
    return [quotient(value_at(bound, ratio), scale) for bound in row[4:] if bound is not None]


def telling_heights(row, other, ratio):
    """Return heights among which, if the rows differ at this ratio, is one for which they do."""
    heights = [(1, 1)] + turning_heights(row, ratio) + turning_heights(other, ratio)
    # From one turning height to the next the results are straight lines. They are told apart by their two ends, and
    # below the least and above the greatest turning height by one more height.
    halves = [quotient(height, (2, 1)) for height in heights]
    doubles = [product(height, (2, 1)) for height in heights]
    return heights + halves + doubles


def difference_at(row, other, ratio):
    """Return a size of this ratio for which the rows have different results, None if there is none."""
    for height in telling_heights(row, other, ratio):
        size = Size(product(ratio, height), height)
        if result_by(row, size) != result_by(other, size):
            return size
    return None


def difference(chain, other):
    """Return a size for which the results of the chains differ, None if there is none."""
    check_both(chain, other)
    for low, high, row, second in overlaps(table_of(chain.steps), table_of(other.steps)):
        if row[2:] != second[2:]:
            # Rows that are not the same agree at one ratio inside at most, so the second ratio always succeeds.
            first = between(low, high)
            for ratio in (first, between(low, first)):
                size = difference_at(row, second, ratio)
                if size is not None:
                    return size
    return None


def is_stable(chain):
    """Return True if the chain, performed twice, has the same effect as once, otherwise False."""
    check_chain(chain)
    return table_of(chain.steps + chain.steps) == table_of(chain.steps)


def commute(chain, other):
    """Return True if the chains have the same effect in either order, otherwise False."""
    check_both(chain, other)
    return table_of(chain.steps + other.steps) == table_of(other.steps + chain.steps)
