"""Records: sizes measured before and after a scaling, and the boxes that explain them.

A set of boxes out of a list of boxes is an integer here, with one bit for each box, so that boxes which explain
several records together are found by `&`.
"""

from sizechains.errors import InvalidKind, InvalidRecords, InvalidStep
from sizechains.exact import compare
from sizechains.limits import MOST_RECORDS
from sizechains.sizes import Size
from sizechains.steps import Scaling, scaling, sides_to_try

# How the factor of a box may compare to the one that leads from the first size of a record to the second one; for
# each kind, and for a second size that is smaller, the same or greater.
EXPLAINING_SIGNS = {
    ("shrink", -1): (0,),
    ("shrink", 0): (0, 1),
    ("grow", 0): (-1, 0),
    ("grow", 1): (0,),
}


def check_kind(kind):
    """Raise InvalidKind if the value is not a kind of scaling."""
    # Only strings are looked up, since a value of another class might claim to equal one of the words.
    if not isinstance(kind, str) or kind not in ("shrink", "grow"):
        raise InvalidKind(kind)


def is_record(value):
    """Return True if the value is a record, otherwise False."""
    return isinstance(value, tuple) and len(value) == 2 and all([isinstance(part, Size) for part in value])


def check_records(records):
    """Raise InvalidRecords if the value is not a tuple of records, as long as it may be."""
    if not isinstance(records, tuple) or len(records) > MOST_RECORDS:
        raise InvalidRecords(None)
    for index, record in enumerate(records):
        if not is_record(record):
            raise InvalidRecords(index)


def explains(step, records):
    """Return True if the scaling explains all records, otherwise False."""
    if not isinstance(step, Scaling):
        raise InvalidStep(step)
    check_records(records)
    return all([step.apply(before) == after for before, after in records])


def explaining_signs(kind, record):
    """Return how the factor of a box may compare to the factor of the record, if the box is to explain it."""
    before, after = record
    if before.ratio != after.ratio:
        return ()
    return EXPLAINING_SIGNS.get((kind, compare(after.width, before.width)), ())


def explaining_boxes(kind, record, cover, widths, heights):
    """Return the set of the boxes with these sides that explain the record."""
    signs = explaining_signs(kind, record)
    by_width = [compare((width, 1), record[1].width) for width in widths]
    by_height = [compare((height, 1), record[1].height) for height in heights]
    boxes = 0
    for one in by_width:
        for other in by_height:
            sign = max(one, other) if cover else min(one, other)
            boxes = boxes * 2 + (1 if sign in signs else 0)
    return boxes


def sides_for(records):
    """Return widths and heights, of which a box that explains the records is made if there is one."""
    widths = sides_to_try([after.width for before, after in records])
    heights = sides_to_try([after.height for before, after in records])
    return (widths, heights)


def shared(sets):
    """Return the set of what is in all of these sets, of which there is at least one."""
    common = sets[0]
    for boxes in sets[1:]:
        common = common & boxes
    return common


def find_box(kind, records, *, cover=False):
    """Return a scaling of this kind whose box explains the records, None if there is none."""
    check_kind(kind)
    check_records(records)
    widths, heights = sides_for(records)
    boxes = [(width, height) for width in widths for height in heights]
    every = (1 << len(boxes)) - 1
    common = shared([every] + [explaining_boxes(kind, record, cover, widths, heights) for record in records])
    if common == 0:
        return None
    # The first box has the highest bit.
    width, height = boxes[len(boxes) - common.bit_length()]
    return scaling(kind, width, height, cover)


def longer(tuples, count):
    """Return, in ascending order, the ascending tuples of indexes below the count that have one index more."""
    return [indexes + (index,) for indexes in tuples for index in range(indexes[-1] + 1, count)]


def barring(kind, records, *, cover=False):
    """Return the least of the shortest tuples of indexes of records which no box explains together, or None."""
    check_kind(kind)
    check_records(records)
    widths, heights = sides_for(records)
    sets = [explaining_boxes(kind, record, cover, widths, heights) for record in records]
    tuples = [(index,) for index in range(len(records))]
    # If each three of the records have a box, all of them have one.
    while tuples and len(tuples[0]) <= 3:
        for indexes in tuples:
            if shared([sets[index] for index in indexes]) == 0:
                return indexes
        tuples = longer(tuples, len(records))
    return None
