"""Tables: complete descriptions of what chains make of sizes, and what their rows tell of all results.

While a table is worked out, the ratio of the result and the factor of a row are terms, too: "same" is R to the power 1,
"inverse" to the power -1, a height (f, 0), a width (f, 1), since the width is the height multiplied by R.
"""

from sizechains.chains import check_chain
from sizechains.exact import between, compare, greater, is_within, lesser, lowest_terms, product, quotient
from sizechains.sizes import Size, check_size
from sizechains.steps import Crop, CropWidth, Landscape, Scaling, Shrink, Turn
from sizechains.terms import greater_at, lesser_at, meeting, order_at, term_product, term_quotient, value_at

ONE = ((1, 1), 0)
START = (None, None, ((1, 1), 1), ((1, 1), 0), None, None)


def split_at(row, ratio):
    """Return the parts of the row below and above the ratio: two if it is inside, otherwise one."""
    low, high = row[0], row[1]
    if low is not None and compare(low, ratio) >= 0:
        return [row]
    if high is not None and compare(high, ratio) <= 0:
        return [row]
    return [(low, ratio) + row[2:], (ratio,) + row[1:]]


def parts_of(row, terms):
    """Return parts of the row, inside which no two different ones of the terms meet."""
    parts = [row]
    for count, one in enumerate(terms):
        for other in terms[:count]:
            ratio = meeting(one, other)
            if ratio is not None:
                parts = [piece for part in parts for piece in split_at(part, ratio)]
    return parts


def place_in(row):
    """Return a ratio inside the row, neither its lowest nor its highest one."""
    return between(row[0], row[1])


def limited(row, bound, shrinks):
    """Return the row behind a scaling that makes no height greater, or none less, than the bound."""
    low, high, ratio, factor, least, most = row
    place = place_in(row)
    if shrinks:
        least = None if least is None else lesser_at(least, bound, place)
        most = bound if most is None else lesser_at(most, bound, place)
    else:
        least = bound if least is None else greater_at(least, bound, place)
        most = None if most is None else greater_at(most, bound, place)
    if least == most:
        factor = None
    return (low, high, ratio, factor, least, most)


def rows_after_scaling(step, row):
    """Return the rows that the row becomes by a scaling."""
    by_height = ((step.height, 1), 0)
    by_width = term_quotient(((step.width, 1), 0), row[2])
    terms = [by_width, by_height] + [bound for bound in row[4:] if bound is not None]
    rows = []
    for part in parts_of(row, terms):
        if step.cover:
            bound = greater_at(by_width, by_height, place_in(part))
        else:
            bound = lesser_at(by_width, by_height, place_in(part))
        rows.append(limited(part, bound, isinstance(step, Shrink)))
    return rows


def reshaped(row, ratio, factor):
    """Return the row with another ratio of the result, and its heights multiplied by the factor."""
    heights = [None if term is None else term_product(term, factor) for term in row[3:]]
    return row[:2] + (ratio,) + tuple(heights)


def rows_after_crop(step, row):
    """Return the rows that the row becomes by a crop."""
    wanted = (lowest_terms(step.width, step.height), 0)
    rows = []
    for part in parts_of(row, [row[2], wanted]):
        sign = order_at(row[2], wanted, place_in(part))
        if isinstance(step, CropWidth) and sign > 0:
            part = reshaped(part, wanted, ONE)
        elif not isinstance(step, CropWidth) and sign < 0:
            part = reshaped(part, wanted, term_quotient(row[2], wanted))
        rows.append(part)
    return rows


def turned_row(row):
    """Return the row behind a quarter turn."""
    return reshaped(row, term_quotient(ONE, row[2]), row[2])


def rows_after_placing(row, wrong):
    """Return the rows that the row becomes if sizes are turned whose ratio compares to 1 as the wrong sign says."""
    parts = parts_of(row, [row[2], ONE])
    return [turned_row(part) if order_at(row[2], ONE, place_in(part)) == wrong else part for part in parts]


def rows_after(step, row):
    """Return the rows that the row becomes by the step."""
    if isinstance(step, Scaling):
        return rows_after_scaling(step, row)
    if isinstance(step, Crop):
        return rows_after_crop(step, row)
    if isinstance(step, Turn):
        return [row] if step.times == 2 else [turned_row(row)]
    return rows_after_placing(row, -1 if isinstance(step, Landscape) else 1)


def joined(rows):
    """Return the rows as few as possible: neighbours that tell the same become one."""
    fewest = []
    for row in rows:
        if fewest and fewest[-1][2:] == row[2:]:
            fewest[-1] = fewest[-1][:1] + row[1:]
        else:
            fewest.append(row)
    return fewest


def written(row):
    """Return the row in the form of the document."""
    low, high, ratio, factor, least, most = row
    if ratio[1] == 0:
        shape = ratio[0]
    else:
        shape = "same" if ratio[1] > 0 else "inverse"
    if factor is not None:
        factor = (factor[0], "width" if factor[1] == 1 else "height")
    return (low, high, shape, factor, least, most)


def table_of(steps):
    """Return the table of the effect of the steps, however many there are."""
    rows = [START]
    for step in steps:
        # Joined after each step, so that no splits remain that tell nothing.
        rows = joined([piece for row in rows for piece in rows_after(step, row)])
    return tuple([written(row) for row in rows])


def table(chain):
    """Return the table of the chain."""
    check_chain(chain)
    return table_of(chain.steps)


def row_at(rows, ratio):
    """Return the first row of a table that holds for the ratio."""
    for row in rows[:-1]:
        if compare(ratio, row[1]) <= 0:
            return row
    return rows[-1]


def row_of(chain, size):
    """Return the first row of the table of the chain that holds for the size."""
    check_chain(chain)
    check_size(size)
    return row_at(table_of(chain.steps), size.ratio)


def height_by(row, size):
    """Return the height of the result that the row gives for the size."""
    factor, least, most = row[3:]
    ratio = size.ratio
    if factor is None:
        # Both bounds are the same.
        return value_at(least, ratio)
    height = product(factor[0], size.width if factor[1] == "width" else size.height)
    if least is not None and compare(height, value_at(least, ratio)) < 0:
        height = value_at(least, ratio)
    if most is not None and compare(height, value_at(most, ratio)) > 0:
        height = value_at(most, ratio)
    return height


def result_by(row, size):
    """Return the size that the row gives for the size, for which it holds."""
    check_size(size)
    height = height_by(row, size)
    ratio = row[2]
    if ratio == "same":
        ratio = size.ratio
    elif ratio == "inverse":
        ratio = quotient((1, 1), size.ratio)
    return Size(product(ratio, height), height)


def is_shaping(row):
    """Return True if all results of the row have one ratio, otherwise False."""
    return row[2] not in ("same", "inverse")


def ratio_term(row):
    """Return the term of the ratio of the results of the row."""
    if is_shaping(row):
        return (row[2], 0)
    return ((1, 1), 1 if row[2] == "same" else -1)


def bound_of(row, sign):
    """Return the bound `most` (sign 1) or `least` (sign -1) of the row."""
    return row[5] if sign > 0 else row[4]


def side_terms(row, bound):
    """Return the terms of the width and of the height of those results of the row whose height is the bound."""
    return (term_product(ratio_term(row), bound), bound)


def extreme(row, term, sign):
    """Return the greatest value (sign 1) or the least one (sign -1) of a term in the row, None if there is none."""
    if term[1] == 0:
        return term[0]
    end = row[1] if term[1] == sign else row[0]
    # Towards 0, or beyond all limits, a term grows or falls without ever reaching an end.
    return None if end is None else value_at(term, end)


def extreme_sides(row, sign):
    """Return the greatest (sign 1) or the least (sign -1) width and height of the results of the row, or Nones."""
    bound = bound_of(row, sign)
    if bound is None:
        return (None, None)
    return tuple([extreme(row, term, sign) for term in side_terms(row, bound)])


def narrowed(row, ratio):
    """Return the row for those sizes only whose results have the ratio, None if it holds for no such size."""
    if is_shaping(row):
        return row if row[2] == ratio else None
    if row[2] == "inverse":
        ratio = quotient((1, 1), ratio)
    return (ratio, ratio) + row[2:] if is_within(ratio, row[0], row[1]) else None


def reaches(row, size):
    """Return True if the size is a result of the row, otherwise False."""
    row = narrowed(row, size.ratio)
    if row is None:
        return False
    # From the least height to the greatest one each occurs, since the bounds are continuous.
    return is_within(size.height, extreme_sides(row, -1)[1], extreme_sides(row, 1)[1])


def far_ratios(row, ratio):
    """Return the ends of the row; for an end that it does not have, a ratio of the row beyond the given one."""
    low, high = row[0], row[1]
    if low is None:
        low = between(None, lesser(ratio, high))
    if high is None:
        high = between(greater(ratio, low), None)
    return (low, high)


def size_before(row, ratio, height):
    """Return the size of this ratio whose result, but for the bounds of the row, has this height."""
    factor = row[3]
    if factor is None:
        # Then the bounds alone tell the height.
        return Size(ratio, 1)
    old = quotient(height, factor[0])
    if factor[1] == "width":
        return Size(old, quotient(old, ratio))
    return Size(product(ratio, old), old)
