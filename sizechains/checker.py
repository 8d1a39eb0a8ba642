"""The checker: it accepts or rejects certificates, no matter who wrote them.

What is not of the forms of the document is mostly found by reading: whatever is no text raises InvalidText.
"""

from sizechains.chains import Chain
from sizechains.errors import InvalidText
from sizechains.exact import is_integer
from sizechains.limits import MOST_RECORDS
from sizechains.sizes import Size
from sizechains.steps import Scaling, Step, scaling, sides_to_try
from sizechains.tables import extreme_sides, reaches, table

KINDS = {
    "shrink": ("shrink", False),
    "shrink cover": ("shrink", True),
    "grow": ("grow", False),
    "grow cover": ("grow", True),
}


def proves_same(text, second, paper):
    """Return True if the chains have the same effect and the paper is None."""
    one, other = Chain.read(text), Chain.read(second)
    return paper is None and table(one) == table(other)


def proves_different(text, second, paper):
    """Return True if the paper is the text of a size for which the results of the chains differ."""
    one, other = Chain.read(text), Chain.read(second)
    size = Size.read(paper)
    return one(size) != other(size)


def row_fits(row, box):
    """Return True if all results of the row fit into the box."""
    width, height = extreme_sides(row, 1)
    if width is None or height is None:
        return False
    return Size(width, height) in box


def proves_fits(text, size_text, paper):
    """Return True if all results of the chain fit into the size and the paper is None."""
    chain, box = Chain.read(text), Size.read(size_text)
    return paper is None and all([row_fits(row, box) for row in table(chain)])


def proves_misfit(text, size_text, paper):
    """Return True if the paper is the text of a size whose result does not fit into the size."""
    chain, box = Chain.read(text), Size.read(size_text)
    return chain(Size.read(paper)) not in box


def proves_result(text, size_text, paper):
    """Return True if the paper is the text of a size for which the size is the result of the chain."""
    chain, size = Chain.read(text), Size.read(size_text)
    return chain(Size.read(paper)) == size


def proves_no_result(text, size_text, paper):
    """Return True if the size is no result of the chain and the paper is None."""
    chain, size = Chain.read(text), Size.read(size_text)
    return paper is None and not any([reaches(row, size) for row in table(chain)])


def check_kind(kind):
    """Raise InvalidText if the value is not one of the kinds of a claim."""
    if not isinstance(kind, str) or kind not in KINDS:
        raise InvalidText(kind)


def read_records(records):
    """Return the list of the records, pairs of sizes, whose texts the value consists of."""
    if not isinstance(records, tuple) or len(records) > MOST_RECORDS:
        raise InvalidText(records)
    for record in records:
        if not isinstance(record, tuple) or len(record) != 2:
            raise InvalidText(record)
    return [(Size.read(before), Size.read(after)) for before, after in records]


def is_explained(records, step):
    """Return True if the scaling explains all records."""
    return all([step.apply(before) == after for before, after in records])


def proves_box(kind, records, paper):
    """Return True if the paper is the text of a scaling of the kind that explains the records."""
    check_kind(kind)
    pairs = read_records(records)
    step = Step.read(paper)
    if not isinstance(step, Scaling) or (step.WORD, step.cover) != KINDS[kind]:
        return False
    return is_explained(pairs, step)


def is_choice(value, count):
    """Return True if the value is an ascending tuple of one to three integers from 0 to below the count."""
    if not isinstance(value, tuple) or not 1 <= len(value) <= 3:
        return False
    least = 0
    for index in value:
        if not is_integer(index) or not least <= index < count:
            return False
        least = index + 1
    return True


def proves_no_box(kind, records, paper):
    """Return True if the paper is a tuple of indexes of records which no box explains together."""
    check_kind(kind)
    pairs = read_records(records)
    if not is_choice(paper, len(pairs)):
        return False
    chosen = [pairs[index] for index in paper]
    word, cover = KINDS[kind]
    for width in sides_to_try([after.width for before, after in chosen]):
        for height in sides_to_try([after.height for before, after in chosen]):
            if is_explained(chosen, scaling(word, width, height, cover)):
                return False
    return True


PROOFS = {
    "same": proves_same,
    "different": proves_different,
    "fits": proves_fits,
    "misfit": proves_misfit,
    "result": proves_result,
    "no result": proves_no_result,
    "box": proves_box,
    "no box": proves_no_box,
}


def check(claim, paper):
    """Return True if the paper is a certificate for the claim, otherwise False."""
    if not isinstance(claim, tuple) or len(claim) != 3:
        return False
    word, first, second = claim
    if not isinstance(word, str) or word not in PROOFS:
        return False
    proves = PROOFS[word]
    try:
        return proves(first, second, paper)
    except InvalidText:
        return False
