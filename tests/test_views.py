"""Views, and chains that show the same pictures (promises 8 to 10 and 14 of stage 3)."""

import random
import unittest
from fractions import Fraction

from sizechains.chains import Chain
from sizechains.comparing import same_effect
from sizechains.errors import InvalidChain, InvalidSize
from sizechains.exact import is_fraction
from sizechains.sizes import Size
from sizechains.steps import Crop, CropHeight, CropWidth, Turn
from sizechains.tables import table
from sizechains.views import breaks, picture_difference, same_pictures, view
from tests.helper import FORTY, LONG, NO_SIZES, ProgramTest
from tests.model import (
    TINY, chain_result, chain_view, number, random_chain, random_chains, scaling_chains, size_of, sizes_to_try)
from tests.test_chains import NO_CHAINS
from tests.test_comparing import PairTest

CHAINS = random_chains()
KEEPS = {"width": ("left", "center", "right"), "height": ("top", "center", "bottom")}

# Views of the size 8x4, worked out by hand: turns, left, top, right, bottom.
VIEWS = {
    "": (0, 0, 0, 1, 1),
    "turn 1": (1, 0, 0, 1, 1),
    "turn 2": (2, 0, 0, 1, 1),
    "turn 3": (3, 0, 0, 1, 1),
    "turn 2, turn 3": (1, 0, 0, 1, 1),
    "turn 1, turn 3": (0, 0, 0, 1, 1),
    "shrink 4x4, grow 9x9 cover": (0, 0, 0, 1, 1),
    "landscape": (0, 0, 0, 1, 1),
    "portrait": (1, 0, 0, 1, 1),
    "portrait, landscape": (2, 0, 0, 1, 1),
    "landscape, portrait, landscape, portrait": (3, 0, 0, 1, 1),
    "width 1:1 left": (0, 0, 0, (1, 2), 1),
    "width 1:1 center": (0, (1, 4), 0, (3, 4), 1),
    "width 1:1 right": (0, (1, 2), 0, 1, 1),
    "width 2:1 left": (0, 0, 0, 1, 1),
    "width 3:1 right": (0, 0, 0, 1, 1),
    "height 4:1 top": (0, 0, 0, 1, (1, 2)),
    "height 4:1 center": (0, 0, (1, 4), 1, (3, 4)),
    "height 4:1 bottom": (0, 0, (1, 2), 1, 1),
    "height 1:1 top": (0, 0, 0, 1, 1),
    "height 2:1 bottom": (0, 0, 0, 1, 1),
    # Turned once: its left is the old bottom, its top the old left, its right the old top, its bottom the old right.
    "turn 1, width 1:4 left": (1, 0, (1, 2), 1, 1),
    "turn 1, width 1:4 center": (1, 0, (1, 4), 1, (3, 4)),
    "turn 1, width 1:4 right": (1, 0, 0, 1, (1, 2)),
    "turn 1, height 1:1 top": (1, 0, 0, (1, 2), 1),
    "turn 1, height 1:1 center": (1, (1, 4), 0, (3, 4), 1),
    "turn 1, height 1:1 bottom": (1, (1, 2), 0, 1, 1),
    "portrait, height 1:1 top": (1, 0, 0, (1, 2), 1),
    # Turned twice: right, bottom, left, top.
    "turn 2, width 1:1 left": (2, (1, 2), 0, 1, 1),
    "turn 2, width 1:1 center": (2, (1, 4), 0, (3, 4), 1),
    "turn 2, width 1:1 right": (2, 0, 0, (1, 2), 1),
    "turn 2, height 4:1 top": (2, 0, (1, 2), 1, 1),
    "turn 2, height 4:1 center": (2, 0, (1, 4), 1, (3, 4)),
    "turn 2, height 4:1 bottom": (2, 0, 0, 1, (1, 2)),
    # Turned three times: top, right, bottom, left.
    "turn 3, width 1:4 left": (3, 0, 0, 1, (1, 2)),
    "turn 3, width 1:4 center": (3, 0, (1, 4), 1, (3, 4)),
    "turn 3, width 1:4 right": (3, 0, (1, 2), 1, 1),
    "turn 3, height 1:1 top": (3, (1, 2), 0, 1, 1),
    "turn 3, height 1:1 center": (3, (1, 4), 0, (3, 4), 1),
    "turn 3, height 1:1 bottom": (3, 0, 0, (1, 2), 1),
    # Several crops.
    "width 1:1 left, width 1:2 left": (0, 0, 0, (1, 4), 1),
    "width 1:1 left, width 1:2 right": (0, (1, 4), 0, (1, 2), 1),
    "width 1:1 left, width 1:2 center": (0, (1, 8), 0, (3, 8), 1),
    "width 1:1 right, width 1:2 center": (0, (5, 8), 0, (7, 8), 1),
    "width 1:1 center, width 1:2 center": (0, (3, 8), 0, (5, 8), 1),
    "width 1:1 left, width 3:2 right, width 1:2 left": (0, 0, 0, (1, 4), 1),
    "width 1:1 right, height 2:1 top": (0, (1, 2), 0, 1, (1, 2)),
    "width 1:1 right, turn 1, width 1:2 left": (1, (1, 2), (1, 2), 1, 1),
    "width 1:1 right, turn 1, height 2:1 top, turn 1, width 1:1 left": (2, (1, 2), 0, (3, 4), 1),
    "width 1:1 right, turn 1, height 2:1 top, turn 1, height 1:1 top": (2, (1, 2), (1, 2), (3, 4), 1),
    "turn 2, width 1:1 left, shrink 1x1, turn 2, width 1:2 left": (0, (1, 2), 0, (3, 4), 1),
    "height 3:1 top, width 1:1 center, height 2:1 bottom": (0, (1, 3), (1, 3), (2, 3), (2, 3)),
    "grow 100x3, width 3:2 center, shrink 7x7 cover": (0, (1, 8), 0, (7, 8), 1),
}

SAME = (
    ("turn 2, turn 2", ""), ("turn 1, turn 1, turn 2", ""), ("landscape", "landscape, landscape"),
    ("turn 3", "turn 2, turn 1"), ("shrink 4x2, shrink 3x3", "shrink 3x2"),
    ("shrink 4x4, turn 1", "turn 1, shrink 4x4"),
    ("width 1:1 left", "width 2:2 left"), ("width 1:1 left, width 1:2 left", "width 1:2 left"),
    ("width 3:1 center, width 1:1 center", "width 1:1 center"), ("turn 2, width 1:1 left, turn 2", "width 1:1 right"),
    ("turn 1, height 1:2 bottom, turn 3", "width 2:1 right"), ("turn 3, width 1:2 left, turn 1", "height 2:1 top"),
    ("turn 1, width 1:2 left, turn 3", "height 2:1 bottom"), ("turn 3, height 1:2 top, turn 1", "width 2:1 right"),
    ("width 2:1 left, height 2:1 top", "height 2:1 top, width 2:1 left"),
    ("width 1:2 left, height 1:2 top, landscape", "width 1:2 left, height 1:2 top, turn 1"),
    ("width 1:2 left, landscape, turn 1", "width 1:2 left, landscape, portrait"),
    ("height 2:1 top, portrait, turn 1", "height 2:1 top, portrait, landscape"),
    ("width 1:1 left, height 1:1 top, landscape, portrait", "width 1:1 left, height 1:1 top"),
    ("width 1:1 left, landscape, turn 1, turn 3", "width 1:1 left, landscape"),
)
DIFFERENT = (
    ("turn 2", ""), ("turn 1", "turn 3"), ("", "turn 1"), ("shrink 4x2", "shrink 4x3"),
    ("width 1:1 left", "width 1:1 right"), ("width 1:1 left", "width 1:1 center"),
    ("height 1:1 top", "height 1:1 bottom"), ("height 1:1 center", "height 1:1 bottom"),
    ("width 3:1 left, width 1:1 right", "width 1:1 right"), ("width 3:1 center, width 1:1 left", "width 1:1 left"),
    ("turn 2, width 1:1 left", "width 1:1 left, turn 2"), ("turn 2, width 1:1 left", "width 1:1 right"),
    ("landscape, turn 1, turn 1", "landscape"), ("portrait, landscape", "landscape"),
    ("width 1:1 left, height 1:1 top, turn 1", "width 1:1 left, height 1:1 top"),
    ("width 1:1 left, landscape, turn 1", "width 1:1 left, landscape, portrait"),
    ("landscape, width 1:1 left", "landscape, width 1:1 right"), ("landscape, turn 2", "landscape, portrait, turn 1"),
    # These have the same effect, and their views differ at very low or very high ratios only.
    ("width 1000000:1 left", "width 1000000:1 center"), ("height 1:1000000 top", "height 1:1000000 center"),
    ("turn 1, width 1000000:1 left", "turn 1, width 1000000:1 center"),
    ("turn 3, height 1:1000000 top", "turn 3, height 1:1000000 center"),
    ("width 1000000:1 left, width 999999:1 right", "width 1000000:1 center, width 999999:1 right"),
    # These views agree at the ratio 4.
    ("width 2:1 center, width 1:1 left", "width 2:1 left, width 1:1 right"),
)
# These have the same effect, and their views differ for sizes of the ratio 1 alone.
AT_ONE_RATIO = (
    ("landscape, turn 1", "landscape, portrait"), ("portrait, turn 1", "portrait, landscape"),
    ("landscape, portrait, turn 3", "landscape"), ("turn 1, portrait, landscape", "turn 1, portrait, turn 1"),
    ("shrink 9x5, landscape, turn 1, shrink 3x4", "shrink 9x5, landscape, portrait, shrink 3x4"),
    ("width 2:1 left, landscape, turn 1", "width 2:1 left, landscape, portrait"),
    ("height 1:2 top, portrait, turn 1, width 3:4 left", "height 1:2 top, portrait, landscape, width 3:4 left"),
)


def read(text):
    return Chain.read(text)


def share(value):
    """Return the share that an integer or a pair by hand stands for."""
    return (value, 1) if isinstance(value, int) else value


class ViewTest(ProgramTest):

    def check_view(self, chain, size):
        found = view(chain, size)
        self.assertEqual(found, chain_view(str(chain), size), (str(chain), str(size)))
        turns, *shares = found
        self.assertIs(type(found), tuple)
        self.assertIs(type(turns), int)
        self.assertIn(turns, (0, 1, 2, 3))
        for place in shares:
            self.assertIs(type(place), tuple)
            self.assertTrue(place == (0, 1) or is_fraction(place))
        left, top, right, bottom = [Fraction(*place) for place in shares]
        self.assertTrue(0 <= left < right <= 1 and 0 <= top < bottom <= 1)
        # What is seen has the ratio of the result, turned as the view says.
        ratio = number(size.ratio) * (right - left) / (bottom - top)
        self.assertEqual(number(chain(size).ratio), ratio if turns in (0, 2) else 1 / ratio)

    def test_by_hand(self):
        for text, expected in VIEWS.items():
            with self.subTest(text=text):
                turns, *shares = expected
                for size in (Size(8, 4), Size((8, 7), (4, 7)), Size(8 * FORTY, 4 * FORTY)):
                    self.assertEqual(view(read(text), size), (turns, *[share(place) for place in shares]))
                    self.check_view(read(text), size)
                self.assertEqual(view(size=Size(8, 4), chain=read(text)), view(read(text), Size(8, 4)))

    def test_square_sizes_are_not_turned(self):
        for text in ("landscape", "portrait", "landscape, portrait", "width 1:1 left, landscape"):
            self.assertEqual(view(read(text), Size(FORTY, FORTY))[0], 0)
        for text, size, turns in (("landscape", (1, 1 + TINY), 1), ("landscape", (1 + TINY, 1), 0),
                                  ("portrait", (1, 1 + TINY), 0), ("portrait", (1 + TINY, 1), 1)):
            self.assertEqual(view(read(text), size_of(*size))[0], turns)

    def test_at_the_ratio_of_a_crop_and_beside_it(self):
        for word, keeps in KEEPS.items():
            for keep in keeps:
                for turns in ("", "turn 1, ", "turn 2, ", "turn 3, "):
                    chain = read(f"{turns}{word} 7:5 {keep}, grow 9x9")
                    for ratio in (Fraction(7, 5), Fraction(5, 7)):
                        for by in (1, 1 + TINY, 1 - TINY, 3, Fraction(1, 3)):
                            self.check_view(chain, size_of(ratio * by, 1))
                            self.check_view(chain, size_of(ratio * by * LONG, LONG))

    def test_any_chain(self):
        for chain in CHAINS:
            rows = table(chain)
            for size in sizes_to_try(rows)[::1 + 3 * len(rows)]:
                self.check_view(chain, size)

    def test_only_the_ratio_matters(self):
        for chain in CHAINS[::3]:
            for size in sizes_to_try(table(chain))[::20]:
                for factor in (2, (1, FORTY), FORTY):
                    self.assertEqual(view(chain, size * factor), view(chain, size))

    def test_chains_of_sixty_steps(self):
        center = Chain(*[(CropWidth if n % 2 else CropHeight)(n + 2, 61 - n) for n in range(60)])
        sides = Chain(*[step for n in range(15) for step in (
            CropWidth(100 - n, n + 1, keep="right"), Turn(1), CropHeight(100 - n, n + 1, keep="bottom"), Turn(3))])
        for chain in (center, sides, read("turn 1") * 60, read("turn 3, width 9:8 left") * 30, read("landscape") * 60):
            self.assertEqual(len(chain), 60)
            for ratio in (1, 2, Fraction(1, 99), 99, Fraction(22, 7), 1 + TINY):
                self.check_view(chain, size_of(ratio, 1))
        self.assertEqual(view(read("turn 1") * 60, Size(3, 2)), view(Chain(), Size(3, 2)))
        self.assertEqual(view(read("turn 1") * 59, Size(3, 2))[0], 3)


class PictureTest(PairTest):

    def check_same(self, chain, other):
        self.assertIs(same_pictures(chain, other), True)
        self.assertIsNone(picture_difference(chain, other))
        self.assertTrue(same_effect(chain, other))
        for size in self.sizes_for(chain, other):
            self.assertEqual(chain_result(str(chain), size), chain_result(str(other), size))
            self.assertEqual(chain_view(str(chain), size), chain_view(str(other), size))

    def check_different(self, chain, other):
        self.assertIs(same_pictures(chain, other), False)
        size = picture_difference(chain, other)
        self.assertIs(type(size), Size)
        self.assertNotEqual((chain_result(str(chain), size), chain_view(str(chain), size)),
                            (chain_result(str(other), size), chain_view(str(other), size)))
        self.assertEqual(picture_difference(other=other, chain=chain), size)
        return size

    def sizes_for(self, chain, other):
        """Return sizes at, beside and between all ratios of crops, whether turned or not."""
        ratios = {Fraction(1)}
        for step in chain.steps + other.steps:
            if isinstance(step, Crop):
                ratios |= {Fraction(step.width, step.height), Fraction(step.height, step.width)}
        ends = [min(ratios) / 2, *sorted(ratios), max(ratios) * 2]
        inside = [low + (high - low) * part for low, high in zip(ends, ends[1:])
                  for part in (TINY, Fraction(1, 3), Fraction(1, 2), 1 - TINY)]
        return [size_of(ratio, 1) for ratio in ends + inside]

    def differ(self, chain, other):
        """Return True if results or views differ for one of many sizes."""
        return not same_effect(chain, other) or any(
            chain_view(str(chain), size) != chain_view(str(other), size) for size in self.sizes_for(chain, other))

    def test_same(self):
        self.check_each_way(self.check_same, SAME)

    def test_different(self):
        self.check_each_way(self.check_different, DIFFERENT)

    def test_different_at_one_ratio_alone(self):
        for one, other in AT_ONE_RATIO:
            with self.subTest(one=one, other=other):
                chain, second = read(one), read(other)
                self.assertTrue(same_effect(chain, second))
                self.assertEqual(self.check_different(chain, second).ratio, (1, 1))
                self.assertEqual(self.check_different(second, chain).ratio, (1, 1))
                for size in self.sizes_for(chain, second):
                    if size.ratio != (1, 1):
                        self.assertEqual(view(chain, size), view(second, size))

    def test_small_ratios(self):
        chance = random.Random(91)
        found = {True: 0, False: 0}
        for _ in range(1200):
            chain, other = random_chain(chance, 2, chance.randint(0, 3)), random_chain(chance, 2, chance.randint(0, 3))
            differ = self.differ(chain, other)
            found[differ] += 1
            (self.check_different if differ else self.check_same)(chain, other)
        self.assertGreater(min(found.values()), 50)

    def test_crops_and_turns_alone(self):
        chance = random.Random(92)
        found = {True: 0, False: 0}
        texts = [f"{word} {ratio} {keep}" for word in KEEPS for keep in KEEPS[word] for ratio in ("1:1", "2:1")]
        texts += ["turn 1", "turn 2", "turn 3", "landscape", "portrait"]
        chains = [read(", ".join(chance.sample(texts, chance.randint(1, 4)))) for _ in range(900)]
        by_table = {}
        for chain in chains:
            by_table.setdefault(table(chain), []).append(chain)
        for alike in by_table.values():
            for chain, other in zip(alike, alike[1:]):
                differ = self.differ(chain, other)
                found[differ] += 1
                (self.check_different if differ else self.check_same)(chain, other)
        self.assertGreater(min(found.values()), 20)

    def test_ratios_that_lie_close_together(self):
        close = [(10 ** 6 - n, 10 ** 6 - n - 1) for n in (0, 1, 2, 3)] + [(1, 1), (999999, 10 ** 6), (10 ** 6, 1)]
        ratios = breaks([CropWidth(width, height) for width, height in close])
        self.assertEqual([number(ratio) for ratio in ratios], sorted(number(ratio) for ratio in ratios))
        self.assertEqual(len(ratios), 11)
        for width, height in close:
            one, other = f"width {width}:{height} left", f"width {width}:{height} right"
            self.check_each_way(self.check_different, ((one, other), (f"turn 1, {one}", f"turn 1, {other}")))

    def test_any_chain(self):
        for chain in CHAINS[::2]:
            self.check_same(chain, chain)
            if len(chain) <= 56:
                self.check_same(chain, chain + read("turn 1, turn 2, turn 1"))
                self.check_different(chain, chain + read("turn 2"))
                self.check_different(chain, chain + read("landscape, turn 1"))

    def test_chains_of_sixty_steps(self):
        quarter = read("turn 1") * 60
        self.check_same(quarter, Chain())
        self.check_different(read("turn 1") * 58, Chain())
        for chain in scaling_chains():
            self.check_same(chain, chain)
        crops = Chain(*[CropWidth(10 ** 6 - n, 900000 + n, keep="left") for n in range(60)])
        self.check_same(crops, Chain(crops[59]))
        last = Chain(*crops.steps[:59], CropWidth(10 ** 6 - 59, 900059, keep="right"))
        self.check_different(crops, last)


class RefusalTest(PairTest):

    def test_view(self):
        chain, size = read("width 1:1 left"), Size(4, 2)
        for value in NO_CHAINS:
            self.assert_refused(InvalidChain, value, view, value, size)
            self.assert_refused(InvalidChain, value, view, size=None, chain=value)
        for value in NO_SIZES + (chain,):
            self.assert_refused(InvalidSize, value, view, chain, value)
            self.assert_refused(InvalidSize, value, view, size=value, chain=chain)
        self.assertEqual(view(chain, size), (0, (0, 1), (0, 1), (1, 2), (1, 1)))
        self.assertEqual([str(chain), str(size)], ["width 1:1 left", "4x2"])

    def test_two_chains(self):
        for call in (same_pictures, picture_difference):
            self.assert_refuses_no_chains(call)
        self.assertIs(same_pictures(Chain(), Chain()), True)


if __name__ == "__main__":
    unittest.main()
