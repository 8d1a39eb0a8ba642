"""Chains (promise 9 of stage 2)."""

import random
import unittest

from sizechains.chains import Chain
from sizechains.errors import (
    FindError, InvalidChain, InvalidSize, InvalidSteps, InvalidText, InvalidTimes, LimitError, NoStep, PictureError,
    TooManySteps)
from sizechains.limits import MOST_STEPS
from sizechains.sizes import Size
from sizechains.steps import CropHeight, CropWidth, Grow, Landscape, Portrait, Shrink, Step, Turn
from tests.helper import FORTY, ProgramTest
from tests.model import chain_result, random_chain, random_chains, random_size
from tests.test_steps import NO_STEPS, STEPS, Agreeable

CHAINS = random_chains()
BOX, SQUARE, QUARTER = Shrink(4, 2), CropWidth(1, 1), Turn()
TEXT = "shrink 4x2, width 1:1 center"


class Lookalike:
    """Has what a chain has, but is none."""

    steps = (BOX, SQUARE)
    held = (BOX, SQUARE)

    def __len__(self):
        return 2


NO_CHAINS = (
    None, True, False, 0, 1, "", TEXT, b"", (), [], (BOX, SQUARE), [BOX, SQUARE], {}, set(), object(), BOX, Size(4, 2),
    Chain, Step, InvalidChain(1), Lookalike(), len,
)


class CreationTest(ProgramTest):

    def test_steps(self):
        for steps in ((), (BOX,), (BOX, SQUARE), (BOX, BOX, BOX), tuple(STEPS[:60]), (QUARTER,) * 60):
            chain = Chain(*steps)
            self.assertIs(type(chain.steps), tuple)
            self.assertEqual([id(step) for step in chain.steps], [id(step) for step in steps])
            self.assertEqual(len(chain), len(steps))
            self.assertIs(bool(chain), len(steps) > 0)
            self.assertEqual(repr(chain), f"Chain({len(steps)})")
        self.assertIsInstance(vars(Chain)["steps"], property)

    def test_most(self):
        self.assertEqual([Chain.MOST, Chain().MOST, vars(Chain)["MOST"]], [60, 60, 60])
        self.assertEqual(Chain.MOST, MOST_STEPS)

    def test_refuses_what_is_no_step(self):
        for value in NO_STEPS + (Chain(), Chain(BOX), (BOX,), [BOX]):
            for index in (0, 1, 2):
                steps = [BOX, SQUARE, QUARTER]
                steps[index] = value
                self.assert_told(InvalidSteps, "index", index, Chain, *steps)
            self.assert_told(InvalidSteps, "index", 1, Chain, BOX, value, value)
            self.assert_told(InvalidSteps, "index", 0, Chain, value)
        self.assertEqual(len(Chain(BOX, SQUARE, QUARTER)), 3)

    def test_refuses_too_many_steps(self):
        for count in (61, 62, 120, 1000):
            self.assert_told(TooManySteps, "count", count, Chain, *[QUARTER] * count)
        self.assert_told(InvalidSteps, "index", 61, Chain, *[QUARTER] * 61, None)
        self.assert_told(InvalidSteps, "index", 0, Chain, "turn 1", *[QUARTER] * 60)
        self.assertEqual(len(Chain(*[QUARTER] * 60)), 60)

    def test_the_methods_stand_in_the_class(self):
        for name in ("__init__", "read", "steps", "walk", "__len__", "__call__", "__add__", "__mul__", "__contains__",
                     "__getitem__", "__eq__", "__str__", "__repr__"):
            self.assertIn(name, vars(Chain))


class TextTest(ProgramTest):

    def test_texts(self):
        for chain, text in (
                (Chain(), ""), (Chain(QUARTER), "turn 1"), (Chain(BOX, SQUARE), TEXT),
                (Chain(Landscape(), Grow(3, 9, cover=True), CropHeight(1, 2, keep="top"), Portrait()),
                 "landscape, grow 3x9 cover, height 1:2 top, portrait"),
                (Chain(*[QUARTER] * 60), ", ".join(["turn 1"] * 60))):
            self.assertEqual([str(chain), f"{chain}"], [text, text])
            self.assertEqual(Chain.read(text), chain)
            self.assertEqual(Chain.read(text=text).steps, chain.steps)

    def test_read_from_its_own_text(self):
        for chain in CHAINS:
            self.assertEqual(str(chain), ", ".join([str(step) for step in chain.steps]))
            self.assertEqual(Chain.read(str(chain)), chain)
            self.assertEqual(Chain.read(str(chain)).steps, chain.steps)
        longest = Chain(*[CropHeight(10 ** 6, 10 ** 6, keep="center")] * 60)
        self.assertEqual(Chain.read(str(longest)), longest)

    def test_read_is_a_class_method(self):
        class Kept(Chain):
            pass
        self.assertIsInstance(vars(Chain)["read"], classmethod)
        self.assertIs(type(Kept.read(TEXT)), Kept)
        self.assertEqual(Chain().read(TEXT), Chain(BOX, SQUARE))

    def test_texts_of_no_chain(self):
        texts = (
            " ", ",", ", ", "-", "Chain(0)", "turn", "turn 4", "shrink 0x1", "turn 1,", "turn 1, ", ", turn 1",
            " turn 1", "turn 1 ", "turn 1,turn 1", "turn 1 , turn 1", "turn 1,  turn 1", "turn 1, , turn 1",
            "turn 1; turn 1", "turn 1 turn 1", "turn 1\nturn 1", "turn 1, Turn 1", "turn 1, 3", "turn 1, turn 01",
            TEXT + ",", TEXT + ", ", TEXT + " ", " " + TEXT, TEXT.replace(", ", ","), TEXT.upper(),
            TEXT + ", width 1:1 top", ", ".join(["turn 1"] * 61), ", ".join(["landscape"] * 150), "," * 2000,
            " " * 2000,
        )
        for text in texts:
            with self.subTest(text=text):
                self.assert_refused(InvalidText, text, Chain.read, text)
                self.assert_refused(InvalidText, text, Chain.read, text=text)

    def test_values_that_are_no_texts(self):
        for value in NO_CHAINS + (Chain(), ["turn 1"], ("turn 1",)):
            if not isinstance(value, str):
                self.assert_refused(InvalidText, value, Chain.read, value)
        self.assertEqual(len(Chain.read("turn 1")), 1)


class ResultTest(ProgramTest):

    def test_one_step_after_the_other(self):
        chance = random.Random(7)
        for chain in CHAINS:
            for most in (3, 10, 1000):
                size = random_size(chance, most)
                sizes = list(chain.walk(size))
                self.assertEqual(len(sizes), len(chain))
                before = size
                for step, after in zip(chain.steps, sizes):
                    self.assertIs(type(after), Size)
                    self.assertEqual(after, step.apply(before))
                    before = after
                self.assertEqual(chain(size), before)
                self.assertEqual(chain(size), chain_result(str(chain), size))
                self.assertEqual([chain(size=size), list(chain.walk(size=size))], [before, sizes])

    def test_without_steps(self):
        for size in (Size(8, 6), Size((1, 3), FORTY)):
            self.assertEqual(Chain()(size), size)
            self.assertEqual(list(Chain().walk(size)), [])

    def test_order_matters(self):
        self.assertEqual(str(Chain.read("turn 1, width 1:2 left")(Size(8, 6))), "4x8")
        self.assertEqual(str(Chain.read("width 1:2 left, turn 1")(Size(8, 6))), "6x3")

    def test_walks_beside_each_other(self):
        chain = Chain.read("shrink 4x2, turn 1, grow 9x9, height 1:1 top")
        size, other = Size(8, 6), Size(3, 5)
        sizes, others = list(chain.walk(size)), list(chain.walk(other))
        first, second, third = chain.walk(size), chain.walk(other), chain.walk(size)
        self.assertEqual([next(first), next(second), next(first)], [sizes[0], others[0], sizes[1]])
        self.assertEqual(chain(other), others[-1])
        self.assertEqual(list(third), sizes)
        self.assertEqual(list(second), others[1:])
        self.assertEqual(list(first), sizes[2:])
        self.assertEqual(str(size), "8x6")

    def test_refuses_what_is_no_size(self):
        for chain in (Chain(), Chain(BOX, SQUARE)):
            for value in (None, True, 8, (8, 6), [8, 6], "8x6", b"8x6", object(), Size, chain, BOX, InvalidSize(8)):
                self.assert_refused(InvalidSize, value, chain, value)
                self.assert_refused(InvalidSize, value, lambda size: list(chain.walk(size)), value)
                self.assert_refused(InvalidSize, value, lambda size: next(chain.walk(size)), value)
                walk = chain.walk(size=value)
                self.assert_refused(InvalidSize, value, lambda: list(walk))
            self.assertEqual(chain(Size(2, 2)), Size(2, 2))

    def test_a_chain_is_not_iterated_over(self):
        for chain in (Chain(), Chain(BOX, SQUARE)):
            self.assertRaises(TypeError, iter, chain)
            self.assertRaises(TypeError, list, chain)


class SumTest(ProgramTest):

    def test_sums(self):
        for chain in CHAINS[::5]:
            for other in CHAINS[::7]:
                if len(chain) + len(other) <= 60:
                    both = chain + other
                    self.assertIs(type(both), Chain)
                    self.assertEqual(both.steps, chain.steps + other.steps)
                    for size in (Size(8, 6), Size((1, 3), 7), Size(FORTY, (1, FORTY))):
                        self.assertEqual(both(size), other(chain(size)))

    def test_sides(self):
        chain, other = Chain(BOX), Chain(SQUARE, QUARTER)
        self.assertEqual([str(chain + other), str(other + chain)],
                         ["shrink 4x2, width 1:1 center, turn 1", "width 1:1 center, turn 1, shrink 4x2"])
        self.assertEqual([len(chain), len(other)], [1, 2])
        self.assertEqual([chain + Chain(), Chain() + chain, Chain() + Chain()], [chain, chain, Chain()])

    def test_refuses_what_is_no_chain(self):
        for value in NO_CHAINS:
            for chain in (Chain(), Chain(BOX), Chain(*[QUARTER] * 60)):
                self.assert_refused(InvalidChain, value, lambda: chain + value)

    def test_refuses_too_many_steps(self):
        for one in (0, 1, 30, 59, 60):
            for other in (0, 1, 2, 30, 31, 60):
                chain, second = Chain(*[QUARTER] * one), Chain(*[BOX] * other)
                if one + other <= 60:
                    self.assertEqual(len(chain + second), one + other)
                else:
                    self.assert_told(TooManySteps, "count", one + other, lambda: chain + second)
                self.assertEqual([len(chain), len(second)], [one, other])

    def test_in_place_gives_another_chain(self):
        chain = kept = Chain(BOX)
        chain += Chain(SQUARE)
        chain *= 2
        self.assertEqual([len(chain), len(kept)], [4, 1])


class RepeatTest(ProgramTest):

    def test_repeated(self):
        for steps in ((), (BOX,), (BOX, SQUARE), (BOX, SQUARE, QUARTER)):
            for times in (0, 1, 2, 3, 20):
                chain = Chain(*steps)
                repeated = chain * times
                self.assertIs(type(repeated), Chain)
                self.assertEqual(repeated.steps, steps * times)
                self.assertEqual(chain.steps, steps)
        self.assertEqual([len(Chain(QUARTER) * 60), len(Chain(QUARTER, BOX) * 30)], [60, 60])

    def test_without_steps(self):
        for times in (0, 1, 60, 61, 10 ** 30, FORTY, int("9" * 40)):
            self.assertEqual(Chain() * times, Chain())
            self.assertEqual(len(Chain() * times), 0)

    def test_refuses_too_many_steps(self):
        for steps, times in (((BOX,), 61), ((BOX, SQUARE), 31), ((BOX,) * 60, 2), ((BOX,) * 59, 2), ((BOX,), 10 ** 30),
                             ((BOX, SQUARE, QUARTER), FORTY)):
            chain = Chain(*steps)
            self.assert_told(TooManySteps, "count", len(steps) * times, lambda: chain * times)
            self.assertEqual(chain * 1, chain)

    def test_refuses_times(self):
        for value in (None, True, False, -1, -FORTY, "", "2", b"2", (), (2,), [], [2], {}, object(), BOX, Size(2, 2),
                      Chain(), Chain(BOX), int):
            for chain in (Chain(), Chain(BOX), Chain(*[QUARTER] * 60)):
                self.assert_refused(InvalidTimes, value, lambda: chain * value)


class StepTest(ProgramTest):

    def test_in(self):
        chain = Chain(Shrink(4, 2), CropWidth(1, 1, keep="left"), Turn())
        for step in (Shrink(4, 2), CropWidth(1, 1, keep="left"), Turn(1), chain[0], chain[2]):
            self.assertIs(step in chain, True)
            self.assertIs(step not in chain, False)
        for value in (Shrink(4, 2, cover=True), Grow(4, 2), CropWidth(1, 1), Turn(3), Landscape(), chain, Chain(),
                      Agreeable()) + NO_STEPS:
            self.assertIs(value in chain, False)
            self.assertIs(value not in chain, True)
        for value in STEPS + list(NO_STEPS) + [Agreeable()]:
            self.assertIs(value in Chain(), False)
        for chain in CHAINS:
            for step in STEPS[::9]:
                self.assertIs(step in chain, any(step == other for other in chain.steps))

    def test_index(self):
        for chain in CHAINS:
            for index, step in enumerate(chain.steps):
                self.assertIs(chain[index], step)

    def test_refuses_indexes(self):
        for chain in (Chain(), Chain(BOX), Chain(BOX, SQUARE), Chain(*[QUARTER] * 60)):
            for value in (-1, len(chain), len(chain) + 1, -len(chain) - 1, FORTY, -FORTY, None, True, False, "", "0",
                          b"0", (), (0,), [0], {}, slice(0, 1), slice(None), object(), BOX, Size(1, 1), chain, int):
                self.assert_refused(NoStep, value, lambda: chain[value])
            for index in range(len(chain)):
                self.assertIs(chain[index], chain.steps[index])


class EqualityTest(ProgramTest):

    def test_chains(self):
        texts = [str(chain) for chain in CHAINS]
        again = [Chain.read(text) for text in texts]
        for text, chain in zip(texts, CHAINS):
            for second, other in zip(texts, again):
                self.assertIs(chain == other, text == second)
                self.assertIs(chain != other, text != second)

    def test_near_ones(self):
        chain = Chain(BOX, SQUARE)
        for other in (Chain(), Chain(BOX), Chain(SQUARE), Chain(SQUARE, BOX), Chain(BOX, SQUARE, QUARTER),
                      Chain(BOX, CropWidth(1, 1, keep="left")), Chain(BOX, CropWidth(2, 2)), Chain(Grow(4, 2), SQUARE)):
            self.assertIs(chain == other or other == chain, False)
            self.assertIs(chain != other and other != chain, True)
        self.assertIs(chain == Chain(Shrink(4, 2), CropWidth(1, 1)), True)
        self.assertIs(Chain() == Chain(), True)

    def test_values_of_other_classes(self):
        for chain in (Chain(), Chain(BOX), Chain(BOX, SQUARE)):
            for value in NO_CHAINS:
                self.assertIs(chain == value or value == chain, False)
                self.assertIs(chain != value and value != chain, True)
            self.assertIs(chain == Agreeable(), False)
            self.assertIs(chain in Size(10 ** 9, 10 ** 9), False)


class ChangeTest(ProgramTest):

    def test_nothing_changes_a_chain(self):
        chain = Chain(BOX, SQUARE)
        calls = (lambda: chain + 1, lambda: chain * True, lambda: chain[2], lambda: chain(None), lambda: chain * 31,
                 lambda: Chain(BOX, None), lambda: Chain.read("turn 4"), lambda: Shrink(0, 1), lambda: chain * 2,
                 lambda: chain + chain, lambda: chain(Size(8, 6)), lambda: list(chain.walk(Size(8, 6))),
                 lambda: chain[0])
        for call in calls:
            try:
                call()
            except (PictureError, FindError, LimitError):
                pass
            self.assertEqual([str(chain), len(chain), str(chain(Size(8, 6)))], [TEXT, 2, "2x2"])
            self.assertEqual([id(step) for step in chain.steps], [id(BOX), id(SQUARE)])

    def test_equal_calls(self):
        chance, other = random.Random(3), random.Random(3)
        for count in range(20):
            one, second = random_chain(chance, 50, count), random_chain(other, 50, count)
            size = Size(count + 1, 7)
            self.assertEqual([one, str(one), one(size), list(one.walk(size))],
                             [second, str(second), second(size), list(second.walk(size))])


if __name__ == "__main__":
    unittest.main()
