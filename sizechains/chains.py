"""Chains: steps that are performed in order."""

from sizechains.errors import InvalidChain, InvalidSteps, InvalidText, InvalidTimes, NoStep, TooManySteps
from sizechains.exact import is_integer
from sizechains.sizes import check_size
from sizechains.steps import Step, find_step


def check_chain(chain):
    """Raise InvalidChain if the value is not a Chain."""
    if not isinstance(chain, Chain):
        raise InvalidChain(chain)


def find_steps(text):
    """Return the list of the steps whose texts the text consists of, None if it does not consist of such texts."""
    if not isinstance(text, str):
        return None
    if text == "":
        return []
    steps = [find_step(part) for part in text.split(", ")]
    return None if None in steps else steps


class Chain:
    """A chain of steps; it never changes."""

    MOST = 60

    def __init__(self, *steps):
        for index, step in enumerate(steps):
            if not isinstance(step, Step):
                raise InvalidSteps(index)
        if len(steps) > Chain.MOST:
            raise TooManySteps(len(steps))
        self.held = steps

    @classmethod
    def read(cls, text):
        """Return the chain with this text."""
        steps = find_steps(text)
        # No chain has more steps, so such a text is the text of none.
        if steps is None or len(steps) > Chain.MOST:
            raise InvalidText(text)
        return cls(*steps)

    @property
    def steps(self):
        """The tuple of the steps."""
        return self.held

    def walk(self, size):
        """Yield the size after the first step, after the second one, and so on."""
        check_size(size)
        for step in self.held:
            size = step.apply(size)
            yield size

    def __call__(self, size):
        check_size(size)
        for step in self.held:
            size = step.apply(size)
        return size

    def __len__(self):
        return len(self.held)

    def __iter__(self):
        raise TypeError("a chain is not iterated over")

    def __contains__(self, x):
        return isinstance(x, Step) and x in self.held

    def __getitem__(self, at):
        if not is_integer(at) or not 0 <= at < len(self.held):
            raise NoStep(at)
        return self.held[at]

    def __add__(self, other):
        check_chain(other)
        steps = self.held + other.held
        return Chain(*steps)

    def __mul__(self, other):
        if not is_integer(other) or other < 0:
            raise InvalidTimes(other)
        count = len(self.held) * other
        # Looked at before the steps are repeated: Python cannot repeat a tuple very often, not even an empty one.
        if count > Chain.MOST:
            raise TooManySteps(count)
        if count == 0:
            return Chain()
        steps = self.held * other
        return Chain(*steps)

    def __eq__(self, other):
        return isinstance(other, Chain) and self.held == other.held

    def __str__(self):
        return ", ".join([str(step) for step in self.held])

    def __repr__(self):
        return f"Chain({len(self.held)})"
