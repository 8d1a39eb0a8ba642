"""Results: which sizes a chain leads to, and from where."""

from sizechains.chains import check_chain
from sizechains.exact import is_within
from sizechains.sizes import check_size
from sizechains.tables import far_ratios, is_shaping, narrowed, size_before, table_of
from sizechains.terms import meeting, value_at


def bounds_at(row, ratio):
    """Return the two bounds of the row at this ratio, None for one that it does not have."""
    return tuple([None if bound is None else value_at(bound, ratio) for bound in row[4:]])


def ratios_for(row, height):
    """Return ratios of the row, among which, if it has a result with this height, is one where it has."""
    meetings = [meeting(bound, (height, 0)) for bound in row[4:] if bound is not None]
    # The ratios that lead to the height follow one another. Their ends are ends of the row, or ratios where a bound
    # meets the height; without a lower or an upper end, they go on beyond all meetings.
    ratios = [ratio for ratio in meetings if ratio is not None and is_within(ratio, row[0], row[1])]
    for met in [None] + meetings:
        ratios.extend(far_ratios(row, met))
    return ratios


def source_in(row, size):
    """Return a size of the row for which the size is the result, None if there is none."""
    row = narrowed(row, size.ratio)
    if row is None:
        return None
    for ratio in ratios_for(row, size.height):
        least, most = bounds_at(row, ratio)
        if is_within(size.height, least, most):
            return size_before(row, ratio, size.height)
    return None


def source(chain, size):
    """Return a size for which the size is the result of the chain, None if there is none."""
    check_chain(chain)
    check_size(size)
    for row in table_of(chain.steps):
        found = source_in(row, size)
        if found is not None:
            return found
    return None


def has_result(chain, size):
    """Return True if the size is the result of the chain for some size, otherwise False."""
    return source(chain, size) is not None


def is_one_of_many(row, found, size):
    """Return True if the row leads to the size from infinitely many sizes, of which one is found, otherwise False."""
    # Behind a crop, ratios beside the one that is found lead to the size, too; at a bound, heights beyond it do.
    return is_shaping(row) or size.height in bounds_at(row, found.ratio)


def count_sources(chain, size):
    """Return the number of sizes for which the size is the result, None if there are infinitely many."""
    check_chain(chain)
    check_size(size)
    sources = {}
    for row in table_of(chain.steps):
        found = source_in(row, size)
        if found is not None:
            if is_one_of_many(row, found, size):
                return None
            # Rows that meet at a ratio find the same size there.
            sources[(found.width, found.height)] = True
    return len(sources)
