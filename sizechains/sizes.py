"""Sizes of pictures: a width and a height, which are fractions."""

from sizechains.errors import InvalidSize, InvalidText
from sizechains.exact import as_fraction, compare, find_fraction, format_fraction, product, quotient


def check_size(size):
    """Raise InvalidSize if the value is not a Size."""
    if not isinstance(size, Size):
        raise InvalidSize(size)


class Size:
    """A size with a width and a height; it never changes."""

    def __init__(self, width, height):
        self.width = as_fraction(width)
        self.height = as_fraction(height)

    @classmethod
    def read(cls, text):
        """Return the size with this text."""
        if not isinstance(text, str):
            raise InvalidText(text)
        # Without an x the second part is empty, which is no fraction.
        parts = text.partition("x")
        width = find_fraction(parts[0])
        height = find_fraction(parts[2])
        if width is None or height is None:
            raise InvalidText(text)
        return cls(width, height)

    @property
    def ratio(self):
        """The width divided by the height."""
        return quotient(self.width, self.height)

    def turned(self):
        """Return the size with width and height exchanged."""
        return Size(self.height, self.width)

    def __eq__(self, other):
        return isinstance(other, Size) and self.width == other.width and self.height == other.height

    def __contains__(self, x):
        if not isinstance(x, Size):
            return False
        return compare(x.width, self.width) <= 0 and compare(x.height, self.height) <= 0

    def __mul__(self, other):
        factor = as_fraction(other)
        return Size(product(self.width, factor), product(self.height, factor))

    def __str__(self):
        return f"{format_fraction(self.width)}x{format_fraction(self.height)}"

    def __repr__(self):
        return f"Size({str(self)})"
