"""The console: commands, one on a line, that change a gallery and answer questions about chains."""

from sizechains.chains import Chain
from sizechains.comparing import difference, same_effect
from sizechains.errors import InvalidLine, InvalidText
from sizechains.gallery import Gallery
from sizechains.sizes import Size


def read_nothing(words):
    """Return no values, if there are no words."""
    if words:
        raise InvalidText(" ".join(words))
    return ()


def read_name(words):
    """Return the word, if there is one alone."""
    if len(words) != 1:
        raise InvalidText(" ".join(words))
    return (words[0],)


def read_picture(words):
    """Return a name and a size."""
    if len(words) != 2:
        raise InvalidText(" ".join(words))
    return (words[0], Size.read(words[1]))


def read_chain(words):
    """Return the chain, which has steps, whose text the words are."""
    text = " ".join(words)
    # The text of a chain without steps is empty.
    if text == "":
        raise InvalidText(text)
    return Chain.read(text)


def read_change(words):
    """Return a chain, and the name behind it if there is one."""
    # No text of a chain contains this word.
    if words[-2:-1] == ["to"]:
        return (read_chain(words[:-2]), words[-1])
    return (read_chain(words),)


def read_chains(words):
    """Return the two chains on both sides of a slash."""
    if words.count("/") != 1:
        raise InvalidText(" ".join(words))
    middle = words.index("/")
    return (read_chain(words[:middle]), read_chain(words[middle + 1:]))


def say_add(gallery, name, size):
    """Add a picture."""
    gallery.add(name, size)
    return "ok"


def say_remove(gallery, name):
    """Remove a picture."""
    gallery.remove(name)
    return "ok"


def say_undo(gallery):
    """Take back the last deed."""
    gallery.undo()
    return "ok"


def say_apply(gallery, chain, *names):
    """Change all pictures, or those with the names."""
    gallery.change(chain, *names)
    return "ok"


def say_size(gallery, name):
    """Return the text of the size of a picture."""
    return str(gallery.size_of(name))


def say_names(gallery):
    """Return all names, or a dash."""
    return " ".join(gallery.names) if gallery.names else "-"


def say_same(gallery, chain, other):
    """Return whether the chains have the same effect."""
    return "yes" if same_effect(chain, other) else "no"


def say_difference(gallery, chain, other):
    """Return the text of a size for which the results of the chains differ, or a dash."""
    size = difference(chain, other)
    return "-" if size is None else str(size)


# For each first word the function that reads the others, and the function that performs the command.
COMMANDS = {
    "add": (read_picture, say_add),
    "remove": (read_name, say_remove),
    "undo": (read_nothing, say_undo),
    "apply": (read_change, say_apply),
    "size": (read_name, say_size),
    "names": (read_nothing, say_names),
    "same": (read_chains, say_same),
    "difference": (read_chains, say_difference),
}


def read_command(line):
    """Return the function that performs the command of the line, and the tuple of its values."""
    if not isinstance(line, str):
        raise InvalidText(line)
    words = line.split(" ")
    if "" in words or words[0] not in COMMANDS:
        raise InvalidText(line)
    read, perform = COMMANDS[words[0]]
    return (perform, read(words[1:]))


class Console:
    """A console with a gallery of its own."""

    def __init__(self):
        self.gallery = Gallery()

    def say(self, line):
        """Perform the command of the line and return its answer."""
        try:
            perform, values = read_command(line)
        except InvalidText:
            raise InvalidLine(line) from None
        return perform(self.gallery, *values)
