"""Galleries: pictures with names and sizes, their changes and a log."""

from sizechains.chains import check_chain
from sizechains.errors import (
    InvalidDeeds, InvalidName, InvalidTimes, NameTaken, NothingToUndo, TooManyDeeds, UnknownName)
from sizechains.exact import format_fraction, is_positive
from sizechains.limits import MOST_DEEDS
from sizechains.sizes import check_size


def is_name(value):
    """Return True if the value is a name, otherwise False."""
    if not isinstance(value, str) or len(value) > 8:
        return False
    return value.isascii() and value.isalpha() and value.islower() and value != "self"


def check_name(name):
    """Raise InvalidName if the value is not a name."""
    if not is_name(name):
        raise InvalidName(name)


def is_deed(value):
    """Return True if the value has the form of a deed, whatever its parts are, otherwise False."""
    if not isinstance(value, tuple) or len(value) == 0 or not isinstance(value[0], str):
        return False
    if value[0] == "change":
        return len(value) == 3 and isinstance(value[2], tuple)
    return (value[0], len(value)) in (("add", 3), ("remove", 2))


def check_deeds(deeds):
    """Raise InvalidDeeds with the index of the first value that has not the form of a deed."""
    for index, deed in enumerate(deeds):
        if not is_deed(deed):
            raise InvalidDeeds(index)


def written_line(name, size):
    """Return the line of a listing for one picture."""
    return f"{name:<8} {format_fraction(size.width):>12} {format_fraction(size.height):>12}"


class Gallery:
    """Pictures with names, each with a size, and the log of what was done to them.

    The dict of the sizes is never changed, but replaced by another one, so that what was before is easily kept.
    """

    def __init__(self, **pictures):
        for name in sorted(list(pictures)):
            check_name(name)
            check_size(pictures[name])
        self.pictures = pictures
        self.deeds = ()
        self.earlier = ()
        self.busy = False

    @property
    def names(self):
        """The ascending tuple of the names."""
        return tuple(sorted(list(self.pictures)))

    @property
    def log(self):
        """The tuple of the deeds that were done and not undone."""
        return self.deeds

    def enter(self, deed, pictures):
        """Make these the pictures, by the deed, which is appended to the log."""
        if len(self.deeds) >= MOST_DEEDS:
            raise TooManyDeeds(MOST_DEEDS)
        self.earlier = self.earlier + (self.pictures,)
        self.deeds = self.deeds + (deed,)
        self.pictures = pictures

    def check_known(self, name):
        """Raise UnknownName if the value is not the name of a picture."""
        if name not in self:
            raise UnknownName(name)

    def add(self, name, size):
        """Add a picture."""
        check_name(name)
        if name in self:
            raise NameTaken(name)
        check_size(size)
        self.enter(("add", name, size), {**self.pictures, name: size})

    def remove(self, name):
        """Remove a picture."""
        self.check_known(name)
        pictures = {other: size for other, size in self.pictures.items() if other != name}
        self.enter(("remove", name), pictures)

    def change(self, chain, *names):
        """Let the sizes of these pictures, or of all if there are no names, become the results of the chain."""
        check_chain(chain)
        for name in names:
            self.check_known(name)
        changed = names if names else self.names
        pictures = dict(self.pictures)
        for name in changed:
            # Not the size in the new dict, since a name that is passed twice counts once.
            pictures[name] = chain(self.pictures[name])
        self.enter(("change", chain, names), pictures)

    def perform(self, deed):
        """Perform a deed by the method for it."""
        word, *values = deed
        if word == "add":
            self.add(values[0], values[1])
        elif word == "remove":
            self.remove(values[0])
        else:
            chain, names = values
            self.change(chain, *names)

    def do_all(self, *deeds, watch=None):
        """Perform the deeds in order, all or none; after each one call `watch`, if it is a function."""
        check_deeds(deeds)
        pictures, done, earlier, busy = self.pictures, self.deeds, self.earlier, self.busy
        self.busy = True
        try:
            for index, deed in enumerate(deeds):
                self.perform(deed)
                if watch is not None:
                    watch(self, index)
            pictures, done, earlier = self.pictures, self.deeds, self.earlier
        finally:
            # Whatever is raised, the gallery becomes what it was before.
            self.pictures, self.deeds, self.earlier, self.busy = pictures, done, earlier, busy

    def undo(self, *, times=1):
        """Take back the last deeds of the log."""
        if not is_positive(times):
            raise InvalidTimes(times)
        left = len(self.deeds) - times
        if left < 0:
            raise NothingToUndo()
        self.pictures = self.earlier[left]
        self.deeds = self.deeds[:left]
        self.earlier = self.earlier[:left]

    def size_of(self, name):
        """Return the size of the picture."""
        self.check_known(name)
        return self.pictures[name]

    def fitting(self, size):
        """Yield the names of the pictures that fit into the size, in ascending order."""
        check_size(size)
        for name in self.names:
            if self.pictures[name] in size:
                yield name

    def listing(self):
        """Return one line for each picture, in ascending order of the names."""
        return "\n".join([written_line(name, self.pictures[name]) for name in self.names])

    def __contains__(self, x):
        return isinstance(x, str) and x in self.pictures

    def __len__(self):
        return len(self.pictures)

    def __eq__(self, other):
        return isinstance(other, Gallery) and self.pictures == other.pictures

    def __repr__(self):
        return f"Gallery({len(self.pictures)})"
