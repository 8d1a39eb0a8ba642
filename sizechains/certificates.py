"""Certificates: true claims with papers that the checker accepts."""

from sizechains.chains import check_chain
from sizechains.comparing import difference
from sizechains.promises import misfit
from sizechains.records import barring, find_box
from sizechains.results import source
from sizechains.sizes import check_size


def effect_certificate(chain, other):
    """Return a claim that tells whether the chains have the same effect, with its paper."""
    size = difference(chain, other)
    texts = (str(chain), str(other))
    if size is None:
        return (("same", *texts), None)
    return (("different", *texts), str(size))


def fit_certificate(chain, size):
    """Return a claim that tells whether all results of the chain fit into the size, with its paper."""
    check_chain(chain)
    check_size(size)
    found = misfit(chain, size.width, size.height)
    texts = (str(chain), str(size))
    if found is None:
        return (("fits", *texts), None)
    return (("misfit", *texts), str(found))


def result_certificate(chain, size):
    """Return a claim that tells whether the size is a result of the chain, with its paper."""
    found = source(chain, size)
    texts = (str(chain), str(size))
    if found is None:
        return (("no result", *texts), None)
    return (("result", *texts), str(found))


def box_certificate(kind, records, *, cover=False):
    """Return a claim that tells whether some box explains the records, with its paper."""
    step = find_box(kind, records, cover=cover)
    word = f"{kind} cover" if cover else kind
    texts = tuple([(str(before), str(after)) for before, after in records])
    if step is None:
        return (("no box", word, texts), barring(kind, records, cover=cover))
    return (("box", word, texts), str(step))
