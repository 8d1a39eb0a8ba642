"""Views: which part of a picture is seen in a result, and how it is turned.

A view is a tuple of the quarter turns and the places of four edges: the left, top, right and bottom one of what is
seen, as they lie in the original picture, clockwise. By each quarter turn the seen edges come to lie one place before.
"""

from sizechains.chains import check_chain
from sizechains.comparing import difference
from sizechains.exact import between, lowest_terms, order
from sizechains.limits import MOST_SIDE
from sizechains.sizes import Size, check_size
from sizechains.steps import Crop, CropWidth, Landscape, Portrait, Turn

EDGES = ("left", "top", "right", "bottom")
WHOLE = (0, (0, 1), (0, 1), (1, 1), (1, 1))


def place_between(start, end, share):
    """Return the place at this share of the way from one place to another one."""
    rest = share[1] - share[0]
    top = start[0] * end[1] * rest + end[0] * start[1] * share[0]
    return lowest_terms(top, start[1] * end[1] * share[1])


def cut(seen, step, share):
    """Return the view that a crop makes of a view if it keeps this share of the seen width, or height."""
    turns, *edges = seen
    keep = step.keep
    if keep == "center":
        near = EDGES.index("left" if isinstance(step, CropWidth) else "top")
    else:
        near = EDGES.index(keep)
    kept = (near - turns) % 4
    opposite = (kept + 2) % 4
    start, end = edges[kept], edges[opposite]
    if keep == "center":
        lost = (share[1] - share[0], share[1] * 2)
        edges[kept] = place_between(start, end, lost)
        edges[opposite] = place_between(end, start, lost)
    else:
        edges[opposite] = place_between(start, end, share)
    return (turns, *edges)


def quarter_turns(step, ratio):
    """Return how many quarter turns the step, which is no crop, turns a picture of this ratio."""
    if isinstance(step, Turn):
        return step.times
    sign = order(ratio[0], ratio[1])
    if isinstance(step, Landscape):
        return 1 if sign < 0 else 0
    if isinstance(step, Portrait):
        return 1 if sign > 0 else 0
    return 0


def view_at(steps, ratio):
    """Return the view of the steps at the sizes of this ratio; on nothing but the ratio it depends."""
    seen = WHOLE
    for step in steps:
        if isinstance(step, Crop):
            # The ratio and the wanted one, both multiplied by their bottoms.
            now, wanted = ratio[0] * step.height, step.width * ratio[1]
            if order(now, wanted) == (1 if isinstance(step, CropWidth) else -1):
                seen = cut(seen, step, (min(now, wanted), max(now, wanted)))
                ratio = lowest_terms(step.width, step.height)
        else:
            times = quarter_turns(step, ratio)
            seen = ((seen[0] + times) % 4,) + seen[1:]
            if times % 2 == 1:
                ratio = (ratio[1], ratio[0])
    return seen


def view(chain, size):
    """Return the view of the chain at the size."""
    check_chain(chain)
    check_size(size)
    return view_at(chain.steps, size.ratio)


def breaks(steps):
    """Return, ascending, the ratios where the steps may begin or cease to crop or to turn, each once."""
    ratios = {(1, 1): True}
    for step in steps:
        if isinstance(step, Crop):
            # Before the first cut the ratio is the one of the size, or 1 divided by it, and behind it a fixed one.
            ratio = lowest_terms(step.width, step.height)
            ratios[ratio] = True
            ratios[(ratio[1], ratio[0])] = True
    # Multiplied by the square of the greatest side, these ratios differ by at least 1, so the keys differ, too.
    return sorted(list(ratios), key=lambda pair: pair[0] * MOST_SIDE ** 2 // pair[1])


def telling_ratios(steps):
    """Return ratios among which, if the views of two chains with these steps differ anywhere, is one where they do."""
    ratios = []
    low = None
    for high in breaks(steps) + [None]:
        # From one break to the next, turns stay the same. Left and right edges are p + q / R, others p + q * R, for
        # the ratio R of the size, so two of them that agree at two ratios agree at all.
        first = between(low, high)
        ratios.extend([first, between(low, first)])
        if high is not None:
            ratios.append(high)
        low = high
    return ratios


def picture_difference(chain, other):
    """Return a size for which the results or the views of the chains differ, None if there is none."""
    size = difference(chain, other)
    if size is not None:
        return size
    for ratio in telling_ratios(chain.steps + other.steps):
        if view_at(chain.steps, ratio) != view_at(other.steps, ratio):
            return Size(ratio, 1)
    return None


def same_pictures(chain, other):
    """Return True if the chains show the same pictures, otherwise False."""
    return picture_difference(chain, other) is None
