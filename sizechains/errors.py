"""The errors of the program, one class for each kind of failure."""


class PictureError(ValueError):
    """A value that the program refuses."""


class InvalidFraction(PictureError):
    """Neither a fraction nor a positive integer where one is asked for."""

    def __init__(self, value):
        self.value = value


class InvalidSize(PictureError):
    """Not a size."""

    def __init__(self, value):
        self.value = value


class InvalidBox(PictureError):
    """Not a side of a box, or not a part of a ratio."""

    def __init__(self, value):
        self.value = value


class InvalidKeep(PictureError):
    """Not a word for the part of the picture that a crop keeps."""

    def __init__(self, value):
        self.value = value


class InvalidTimes(PictureError):
    """Not a number of times."""

    def __init__(self, value):
        self.value = value


class InvalidStep(PictureError):
    """Not a step of the kind that is asked for."""

    def __init__(self, value):
        self.value = value


class InvalidSteps(PictureError):
    """Steps with something else among them."""

    def __init__(self, index):
        self.index = index


class InvalidChain(PictureError):
    """Not a chain."""

    def __init__(self, value):
        self.value = value


class InvalidText(PictureError):
    """Not the text of what is to be read."""

    def __init__(self, value):
        self.value = value


class InvalidKind(PictureError):
    """Not a kind of scaling."""

    def __init__(self, value):
        self.value = value


class InvalidRecords(PictureError):
    """Not a tuple of records, or one with something else among them."""

    def __init__(self, index):
        self.index = index


class InvalidName(PictureError):
    """Not a name for a picture."""

    def __init__(self, value):
        self.value = value


class InvalidDeeds(PictureError):
    """Deeds with something else among them."""

    def __init__(self, index):
        self.index = index


class InvalidLine(PictureError):
    """Not a command of the console."""

    def __init__(self, value):
        self.value = value


class FindError(LookupError):
    """Something that is asked for is not there, or is there already."""


class NoStep(FindError):
    """A chain has no step with this index."""

    def __init__(self, value):
        self.value = value


class UnknownName(FindError):
    """No picture has this name."""

    def __init__(self, value):
        self.value = value


class NameTaken(FindError):
    """A picture has this name already."""

    def __init__(self, value):
        self.value = value


class NothingToUndo(FindError):
    """The log has fewer deeds than are to be taken back."""


class LimitError(ArithmeticError):
    """A limit would be exceeded."""


class TooManySteps(LimitError):
    """A chain would have too many steps."""

    def __init__(self, count):
        self.count = count


class TooManyDeeds(LimitError):
    """A log has as many deeds as it may have."""

    def __init__(self, count):
        self.count = count
