"""Steps: they scale, crop and turn pictures of any size."""

from sizechains.errors import InvalidBox, InvalidKeep, InvalidText, InvalidTimes
from sizechains.exact import compare, fraction, is_numeral, is_positive, product, quotient
from sizechains.limits import MOST_SIDE
from sizechains.sizes import Size, check_size


def check_box(width, height):
    """Raise InvalidBox with the first of the two that is not an integer from 1 to the limit."""
    for side in (width, height):
        if not is_positive(side) or side > MOST_SIDE:
            raise InvalidBox(side)


def sides_to_try(numbers):
    """Return widths to try, ascending, for a box by which scalings of one kind are to lead to these widths.

    For each height of the box, the widths by which they do follow one another, and the least one is 1 or one of these
    widths, rounded up. The same holds for heights.
    """
    rounded = [-(-number[0] // number[1]) for number in numbers]
    return [side for side in sorted(set([1] + rounded)) if side <= MOST_SIDE]


class Step:
    """What all steps have; a step never changes."""

    WORD = ""

    @staticmethod
    def read(text):
        """Return the step with this text."""
        step = find_step(text)
        if step is None:
            raise InvalidText(text)
        return step

    def details(self):
        """Return what stands behind the first word of the text, with the blank before it."""
        return ""

    def __eq__(self, other):
        # The text tells the class of a step and all its attributes.
        return isinstance(other, Step) and str(self) == str(other)

    def __str__(self):
        return f"{self.WORD}{self.details()}"

    def __repr__(self):
        return f"Step({str(self)})"


class Scaling(Step):
    """What shrinking and growing have in common."""

    def __init__(self, width, height, cover):
        check_box(width, height)
        self.width = width
        self.height = height
        self.cover = cover

    def details(self):
        """Return the box and whether it is covered."""
        ending = " cover" if self.cover else ""
        return f" {self.width}x{self.height}{ending}"

    def factor(self, size):
        """Return the covering factor of the size if the box is to be covered, otherwise the fitting factor."""
        by_width = quotient((self.width, 1), size.width)
        by_height = quotient((self.height, 1), size.height)
        lesser, greater = by_width, by_height
        if compare(by_width, by_height) > 0:
            lesser, greater = by_height, by_width
        return greater if self.cover else lesser


class Shrink(Scaling):
    """Scales what is too great."""

    WORD = "shrink"

    def __init__(self, width, height, *, cover=False):
        Scaling.__init__(self, width, height, cover)

    def apply(self, size):
        """Return the size after the step."""
        check_size(size)
        factor = self.factor(size)
        return size * factor if compare(factor, (1, 1)) < 0 else size


class Grow(Scaling):
    """Scales what is too small."""

    WORD = "grow"

    def __init__(self, width, height, *, cover=False):
        Scaling.__init__(self, width, height, cover)

    def apply(self, size):
        """Return the size after the step."""
        check_size(size)
        factor = self.factor(size)
        return size * factor if compare(factor, (1, 1)) > 0 else size


class Crop(Step):
    """What the two crops have in common."""

    def __init__(self, width, height, keep, words):
        check_box(width, height)
        # Only strings are looked up, since a value of another class might claim to equal one of the words.
        if not isinstance(keep, str) or keep not in words:
            raise InvalidKeep(keep)
        self.width = width
        self.height = height
        self.keep = keep

    def details(self):
        """Return the wanted ratio and the part that is kept."""
        return f" {self.width}:{self.height} {self.keep}"


class CropWidth(Crop):
    """Crops what is too wide."""

    WORD = "width"
    KEEPS = ("left", "center", "right")

    def __init__(self, width, height, *, keep="center"):
        Crop.__init__(self, width, height, keep, CropWidth.KEEPS)

    def apply(self, size):
        """Return the size after the step."""
        check_size(size)
        wanted = fraction(self.width, self.height)
        if compare(size.ratio, wanted) <= 0:
            return size
        return Size(product(size.height, wanted), size.height)


class CropHeight(Crop):
    """Crops what is too high."""

    WORD = "height"
    KEEPS = ("top", "center", "bottom")

    def __init__(self, width, height, *, keep="center"):
        Crop.__init__(self, width, height, keep, CropHeight.KEEPS)

    def apply(self, size):
        """Return the size after the step."""
        check_size(size)
        wanted = fraction(self.width, self.height)
        if compare(size.ratio, wanted) >= 0:
            return size
        return Size(size.width, quotient(size.width, wanted))


class Turn(Step):
    """Turns clockwise by one to three quarter turns."""

    WORD = "turn"

    def __init__(self, times=1):
        if not is_positive(times) or times > 3:
            raise InvalidTimes(times)
        self.times = times

    def details(self):
        """Return the number of quarter turns."""
        return f" {self.times}"

    def apply(self, size):
        """Return the size after the step."""
        check_size(size)
        return size if self.times == 2 else size.turned()


class Landscape(Step):
    """Turns what is higher than wide."""

    WORD = "landscape"

    def apply(self, size):
        """Return the size after the step."""
        check_size(size)
        return size.turned() if compare(size.height, size.width) > 0 else size


class Portrait(Step):
    """Turns what is wider than high."""

    WORD = "portrait"

    def apply(self, size):
        """Return the size after the step."""
        check_size(size)
        return size.turned() if compare(size.width, size.height) > 0 else size


def find_sides(text, sign):
    """Return the two integers around the sign as a pair, None if they are no sides of a box."""
    width, found, height = text.partition(sign)
    for numeral in (width, height):
        # No side has more than seven digits, and Python refuses to read very long numbers.
        if not is_numeral(numeral) or len(numeral) > 7 or not 1 <= int(numeral) <= MOST_SIDE:
            return None
    return (int(width), int(height))


def scaling(word, width, height, cover):
    """Return the scaling with this word."""
    if word == Shrink.WORD:
        return Shrink(width, height, cover=cover)
    return Grow(width, height, cover=cover)


def find_scaling(word, details):
    """Return the scaling with this word and this list of details, None if there is none."""
    sides = find_sides(details[0], "x") if details else None
    if sides is None:
        return None
    return scaling(word, sides[0], sides[1], len(details) > 1)


def find_crop(word, details):
    """Return the crop with this word and this list of details, None if there is none."""
    sides = find_sides(details[0], ":") if len(details) > 1 else None
    if sides is None:
        return None
    keep = details[1]
    if word == "width" and keep in CropWidth.KEEPS:
        return CropWidth(sides[0], sides[1], keep=keep)
    if word == "height" and keep in CropHeight.KEEPS:
        return CropHeight(sides[0], sides[1], keep=keep)
    return None


def find_turn(word, details):
    """Return the turn with this word and this list of details, None if there is none."""
    if word == "landscape":
        return Landscape()
    if word == "portrait":
        return Portrait()
    if word == "turn" and details and details[0] in ("1", "2", "3"):
        return Turn(int(details[0]))
    return None


def find_step(text):
    """Return the step with this text, None if there is none."""
    if not isinstance(text, str):
        return None
    words = text.split(" ")
    word, *details = words
    if word in ("shrink", "grow"):
        step = find_scaling(word, details)
    elif word in ("width", "height"):
        step = find_crop(word, details)
    else:
        step = find_turn(word, details)
    # Writing it again bars leading zeros, other words and words too many.
    if step is None or str(step) != text:
        return None
    return step
