"""What the document says of steps, rows and views, told once more with Python's own fractions.

Also sizes and chains to try.
"""

import random
from fractions import Fraction

from sizechains.chains import Chain
from sizechains.sizes import Size
from sizechains.steps import CropHeight, CropWidth, Grow, Landscape, Portrait, Shrink, Turn

TINY = Fraction(1, 10 ** 20)
SCALINGS = ("shrink", "grow")


def number(pair):
    return Fraction(*pair)


def size_of(width, height):
    """Return the Size with these sides, which are integers or Fractions."""
    width, height = Fraction(width), Fraction(height)
    return Size((width.numerator, width.denominator), (height.numerator, height.denominator))


def sides_of(size):
    return number(size.width), number(size.height)


def scaled(word, box, covers, width, height):
    factors = sorted([Fraction(box[0]) / width, Fraction(box[1]) / height])
    factor = factors[1] if covers else factors[0]
    if (word == "shrink" and factor < 1) or (word == "grow" and factor > 1):
        return width * factor, height * factor
    return width, height


def step_result(text, width, height):
    """Return the sides that a step with this text makes of these sides."""
    word, *details = text.split()
    if word in SCALINGS:
        return scaled(word, [int(side) for side in details[0].split("x")], details[1:] == ["cover"], width, height)
    if word in ("width", "height"):
        wanted = Fraction(*[int(side) for side in details[0].split(":")])
        if word == "width":
            return min(width, height * wanted), height
        return width, min(height, width / wanted)
    turns = {"turn": details in (["1"], ["3"]), "landscape": height > width, "portrait": width > height}
    return (height, width) if turns[word] else (width, height)


def chain_result(text, size):
    """Return the size that a chain with this text makes of the size."""
    width, height = sides_of(size)
    for part in text.split(", ") if text else []:
        width, height = step_result(part, width, height)
    return size_of(width, height)


def row_result(row, size):
    """Return the size that a row of a table gives, as point 11 says."""
    _, _, ratio, factor, least, most = row
    width, height = sides_of(size)
    old = width / height
    bounds = [None if bound is None else number(bound[0]) * old ** bound[1] for bound in (least, most)]
    if factor is None:
        new = bounds[0]
    else:
        new = number(factor[0]) * (height if factor[1] == "height" else width)
        if bounds[0] is not None and new < bounds[0]:
            new = bounds[0]
        if bounds[1] is not None and new > bounds[1]:
            new = bounds[1]
    shape = {"same": old, "inverse": 1 / old}[ratio] if isinstance(ratio, str) else number(ratio)
    return size_of(shape * new, new)


def cut_corners(corners, word, keep, share):
    """Return the corners of what a crop keeps: this share of the width, or of the height."""
    if word == "height":
        # What is top and bottom becomes left and right, and the other way about.
        first, second, third, fourth = corners
        keep = {"top": "left", "bottom": "right"}.get(keep, keep)
        first, fourth, third, second = cut_corners((first, fourth, third, second), "width", keep, share)
        return first, second, third, fourth
    start = {"left": 0, "center": (1 - share) / 2, "right": 1 - share}[keep]

    def along(one, other, part):
        return tuple(a + (b - a) * part for a, b in zip(one, other))

    upper, right, lower, left = corners
    return (along(upper, right, start), along(upper, right, start + share),
            along(left, lower, start + share), along(left, lower, start))


def chain_view(text, size):
    """Return the view of a chain with this text: where in the original the corners of what is seen lie.

    The corners are the upper left, upper right, lower right and lower left one of the picture as it is seen.
    """
    width, height = sides_of(size)
    corners = tuple((Fraction(x), Fraction(y)) for x, y in ((0, 0), (1, 0), (1, 1), (0, 1)))
    turns = 0
    for part in text.split(", ") if text else []:
        word, *details = part.split()
        new_width, new_height = step_result(part, width, height)
        times = {"turn": int(details[0]) if word == "turn" else 0, "landscape": height > width,
                 "portrait": width > height}.get(word, 0)
        for _ in range(times):
            corners = (corners[3], *corners[:3])
        turns += times
        if word in ("width", "height"):
            share = new_width / width if word == "width" else new_height / height
            if share != 1:
                corners = cut_corners(corners, word, details[1], share)
        width, height = new_width, new_height
    across, down = [x for x, _ in corners], [y for _, y in corners]
    edges = (min(across), min(down), max(across), max(down))
    return (turns % 4, *[(edge.numerator, edge.denominator) for edge in edges])


def random_step(chance, most):
    """Return any step with sides up to most; chance is a random.Random."""
    kind = chance.choice((Shrink, Shrink, Grow, Grow, CropWidth, CropHeight, Turn, Landscape, Portrait))
    if kind in (Shrink, Grow):
        return kind(chance.randint(1, most), chance.randint(1, most), cover=chance.random() < 0.5)
    if kind in (CropWidth, CropHeight):
        return kind(chance.randint(1, most), chance.randint(1, most), keep=chance.choice(kind.KEEPS))
    if kind is Turn:
        return Turn(chance.randint(1, 3))
    return kind()


def random_chain(chance, most, count):
    return Chain(*[random_step(chance, most) for _ in range(count)])


def random_size(chance, most):
    ratio = Fraction(chance.randint(1, most), chance.randint(1, most))
    height = Fraction(chance.randint(1, most), chance.choice((1, 2, 3, most)))
    return size_of(ratio * height, height)


def random_chains():
    """Return chains of none to sixty steps, the same ones each time."""
    chance = random.Random(2026)
    chains = []
    for count in (0, 1, 1, 1, 2, 2, 2, 2, 3, 3, 3, 4, 4, 5, 6, 8, 12, 30, 60):
        chains += [random_chain(chance, most, count) for most in (2, 3, 5, 9, 100, 10 ** 6)]
    return chains


def scaling_chains():
    """Return chains without crops, whose tables have many rows."""
    return [
        Chain(*[Shrink(1000 + 900 * n, 60000 - 900 * n, cover=True) for n in range(60)]),
        Chain(*[Grow(1 + n, 60 - n) for n in range(60)]),
        Chain(*[step for n in range(20) for step in (
            Shrink(10 ** 6 - 1000 * n, 900000 + 3000 * n), Grow(n * n + 1, 1000 - n * n, cover=n % 3 == 0), Turn(1))]),
    ]


def ratios_to_try(table):
    """Return ratios inside the rows of a table, at their limits, and 10 ** -20 beside these."""
    limits = [number(row[1]) for row in table[:-1]]
    ends = [Fraction(1, 10 ** 9)] + limits + [Fraction(10 ** 9)]
    inside = [(low + high) / 2 for low, high in zip(ends, ends[1:])]
    beside = [limit * by for limit in limits for by in (1 - TINY, 1 + TINY)]
    return ends + inside + beside + [Fraction(1), Fraction(1, 2), Fraction(2)]


def sizes_to_try(table):
    """Return sizes at these ratios: very low, very high, and where the height reaches a bound."""
    sizes = []
    for ratio in ratios_to_try(table):
        heights = {Fraction(1, 10 ** 12), Fraction(1), Fraction(7, 3), Fraction(10 ** 12)}
        for row in table:
            if row[3] is not None:
                scale = number(row[3][0]) * (ratio if row[3][1] == "width" else 1)
                heights |= {number(f) * ratio ** power / scale for f, power in [b for b in row[4:] if b]}
        sizes += [size_of(ratio * height, height) for height in sorted(heights)[:9]]
    return sizes


def sizes_at_bounds(table):
    """Return sizes at the limits of the rows of a table and inside them, for which the height is a bound, or near."""
    sizes = []
    for low, high, _, factor, *bounds in table:
        ends = [number(end) for end in (low, high) if end]
        for ratio in ends + [end * by for end in ends for by in (1 - TINY, 1 + TINY)] + [Fraction(1)]:
            scale = 1 if factor is None else number(factor[0]) * (ratio if factor[1] == "width" else 1)
            heights = [number(f) * ratio ** power / scale for f, power in [bound for bound in bounds if bound]]
            sizes += [size_of(ratio * height, height) for height in heights or [Fraction(1)]]
    return sizes
