"""Promises about all results of a chain (promises 1 to 4 and 14 of stage 3)."""

import random
import unittest
from fractions import Fraction

from sizechains.chains import Chain
from sizechains.errors import InvalidChain, InvalidFraction
from sizechains.exact import is_fraction
from sizechains.promises import always_covers, always_fits, gap, limits_of, misfit
from sizechains.sizes import Size
from sizechains.tables import table
from tests.helper import FORTY, LONG, WRONG_SIDES, ProgramTest
from tests.model import (
    TINY, chain_result, number, random_chains, scaling_chains, sides_of, sizes_at_bounds, sizes_to_try)
from tests.test_chains import NO_CHAINS

CHAINS = random_chains() + scaling_chains()
HUGE = Fraction(10 ** 60)

# Each with the limits of its results, worked out by hand: width, height, ratio.
LIMITS = {
    "": (None, None, None, None, None, None),
    "turn 1": (None, None, None, None, None, None),
    "shrink 4x2": (None, 4, None, 2, None, None),
    "shrink 4x2, turn 1": (None, 2, None, 4, None, None),
    "shrink 4x2 cover": (None, None, None, None, None, None),
    "grow 4x2": (None, None, None, None, None, None),
    "grow 4x2 cover": (4, None, 2, None, None, None),
    "turn 3, grow 4x2 cover, turn 1": (2, None, 4, None, None, None),
    "grow 4x2 cover, shrink 4x2": (None, 4, None, 2, None, None),
    "shrink 4x2, grow 4x2 cover": (4, None, 2, None, None, None),
    "shrink 1000000x1": (None, 10 ** 6, None, 1, None, None),
    "landscape": (None, None, None, None, 1, None),
    "portrait": (None, None, None, None, None, 1),
    "landscape, portrait": (None, None, None, None, None, 1),
    "landscape, shrink 4x4": (None, 4, None, 4, 1, None),
    "landscape, grow 4x4": (4, None, None, None, 1, None),
    "landscape, grow 4x4, shrink 4x4": (4, 4, None, 4, 1, None),
    "landscape, grow 4x4 cover": (4, None, 4, None, 1, None),
    "portrait, shrink 4x4 cover": (None, 4, None, None, None, 1),
    "width 3:2 left": (None, None, None, None, None, (3, 2)),
    "height 3:2 top": (None, None, None, None, (3, 2), None),
    "width 3:2 left, turn 1": (None, None, None, None, (2, 3), None),
    "width 3:2 left, height 1:3 top": (None, None, None, None, (1, 3), (3, 2)),
    "width 3:2 left, height 1:3 top, shrink 3x2": (None, 3, None, 2, (1, 3), (3, 2)),
    "width 3:2 left, height 1:3 top, grow 3x2 cover": (3, None, 2, None, (1, 3), (3, 2)),
    "width 3:2 left, height 1:3 top, grow 9x2, shrink 9x2": ((2, 3), 3, 2, 2, (1, 3), (3, 2)),
    "width 3:2 left, height 1:3 top, grow 9x2, shrink 9x2, turn 1": (2, 2, (2, 3), 3, (2, 3), 3),
    "width 3:2 left, height 1:3 top, grow 3x9": (3, None, 2, None, (1, 3), (3, 2)),
    "landscape, width 3:2 left, grow 4x4 cover": (4, None, 4, None, 1, (3, 2)),
    "landscape, width 3:2 left, shrink 7x4 cover": (None, 7, None, 7, 1, (3, 2)),
    "width 1:1 left, height 1:1 top": (None, None, None, None, 1, 1),
    "width 1:1 left, height 1:1 top, shrink 5x9": (None, 5, None, 5, 1, 1),
    "width 1:1 left, height 1:1 top, grow 3x3, shrink 3x3": (3, 3, 3, 3, 1, 1),
    "width 1:1 left, height 3:1 top, grow 3x3, shrink 5x5": (3, 5, 1, (5, 3), 3, 3),
    "shrink 4x2, width 1:1 center": (None, 2, None, 2, None, 1),
    "grow 9x9 cover, width 7:5 left, height 7:5 top, shrink 9x9": (9, 9, (45, 7), (45, 7), (7, 5), (7, 5)),
}


def pair(side):
    """Return the fraction that a side by hand stands for, None for None."""
    return (side, 1) if isinstance(side, int) else side


def read(text):
    return Chain.read(text)


def as_pair(side):
    return (side.numerator, side.denominator)


class LimitsTest(ProgramTest):

    def test_by_hand(self):
        for text, limits in LIMITS.items():
            with self.subTest(text=text):
                self.assertEqual(limits_of(read(text)), tuple([pair(side) for side in limits]))
                self.assertEqual(limits_of(chain=read(text)), limits_of(read(text)))

    def test_each_limit_is_one_that_some_result_has_and_none_passes(self):
        for chain in CHAINS + [read(text) for text in LIMITS]:
            limits = limits_of(chain)
            self.assertIs(type(limits), tuple)
            self.assertEqual(len(limits), 6)
            rows = table(chain)
            results = [chain(size) for size in sizes_at_bounds(rows) + sizes_to_try(rows)[::1 + len(rows)]]
            measures = [[number(side) for side in sides]
                        for sides in zip(*[(size.width, size.height, size.ratio) for size in results])]
            for index, limit in enumerate(limits):
                if limit is not None:
                    self.assertTrue(is_fraction(limit))
                    self.assertEqual((min, max)[index % 2](measures[index // 2]), number(limit), (str(chain), index))

    def test_without_a_limit_results_go_on(self):
        for chain in CHAINS[::2] + [read(text) for text in LIMITS]:
            limits = limits_of(chain)
            huge, tiny = as_pair(HUGE), as_pair(1 / HUGE)
            for index, call, box in ((0, gap, (tiny, (1, 1))), (2, gap, ((1, 1), tiny)), (1, misfit, (huge, huge)),
                                     (3, misfit, (huge, huge))):
                if limits[index] is None:
                    self.assertIsNotNone(call(chain, *box), (str(chain), index))

    def test_ratios_of_chains_that_crop(self):
        for first, second in ((3, 2), (2, 3), (1, 1), (10 ** 6, 1), (999999, 10 ** 6)):
            ratio = number((first, second))
            chain = read(f"width {first}:{second} left")
            self.assertEqual(limits_of(chain)[4:], (None, as_pair(ratio)))
            self.assertEqual(limits_of(chain + read("turn 1"))[4:], (as_pair(1 / ratio), None))
            self.assertEqual(limits_of(chain + read(f"height {first}:{second} top"))[4:], (as_pair(ratio),) * 2)


class BoxTest(ProgramTest):

    def check_fits(self, chain, width, height, expected):
        self.assertIs(always_fits(chain, width, height), expected, (str(chain), width, height))
        size = misfit(chain, width, height)
        self.assertEqual(size is None, expected)
        if size is not None:
            self.assertIs(type(size), Size)
            self.assertNotIn(chain_result(str(chain), size), Size(width, height))
        self.assertEqual(misfit(height=height, width=width, chain=chain), size)

    def check_covers(self, chain, width, height, expected):
        self.assertIs(always_covers(chain, width, height), expected, (str(chain), width, height))
        size = gap(chain, width, height)
        self.assertEqual(size is None, expected)
        if size is not None:
            self.assertIs(type(size), Size)
            sides, least = sides_of(chain_result(str(chain), size)), sides_of(Size(width, height))
            self.assertTrue(sides[0] < least[0] or sides[1] < least[1])
        self.assertEqual(gap(height=height, width=width, chain=chain), size)

    def check_boxes(self, chain, check, width, height, step):
        """The box is the last one that is promised: by the step, 10 ** -20 or its opposite, one comes to others."""
        if width is None or height is None:
            for sides in ((1, 1), (10 ** 6, 10 ** 6), ((1, 10 ** 6), (1, 10 ** 6)), (as_pair(HUGE), as_pair(HUGE)),
                          (as_pair(1 / HUGE), as_pair(1 / HUGE))):
                check(chain, *sides, False)
            return
        factors = (1 - step, Fraction(1), 1 + step, 1 + step * 10 ** 19)
        for one in factors:
            for other in factors:
                sides = as_pair(number(width) * one), as_pair(number(height) * other)
                check(chain, *sides, 1 - step not in (one, other))

    def test_at_the_limits(self):
        for chain in CHAINS + [read(text) for text in LIMITS]:
            least_width, width, least_height, height = limits_of(chain)[:4]
            self.check_boxes(chain, self.check_fits, width, height, TINY)
            self.check_boxes(chain, self.check_covers, least_width, least_height, -TINY)

    def test_integers_stand_for_fractions(self):
        for sides in ((4, 2), ((4, 1), (2, 1)), (4, (2, 1)), ((4, 1), 2), (FORTY, LONG), ((LONG, 2), (FORTY, 2))):
            self.check_fits(read("shrink 4x2"), *sides, True)
            self.check_fits(read("grow 4x2 cover"), *sides, False)
        for sides in ((4, 2), ((4, 1), (2, 1)), (4, (2, 1)), ((4, 1), 2), (1, 1), ((1, FORTY), (2, LONG))):
            self.check_covers(read("grow 4x2 cover"), *sides, True)
            self.check_covers(read("shrink 4x2"), *sides, False)

    def test_one_side_too_small(self):
        for sides in ((3, 2), (4, 1), (3, FORTY), (FORTY, 1), ((39, 10), 2), (4, (19, 10))):
            self.check_fits(read("shrink 4x2"), *sides, False)
        for sides in ((5, 2), (4, 3), (5, (1, FORTY)), ((1, FORTY), 3), ((41, 10), 2), (4, (21, 10))):
            self.check_covers(read("grow 4x2 cover"), *sides, False)

    def test_any_box(self):
        chance = random.Random(31)
        for chain in CHAINS[::2]:
            limits = limits_of(chain)
            for _ in range(4):
                width, height = [Fraction(chance.randint(1, 30), chance.randint(1, 30)) * chance.choice((1, 10 ** 5))
                                 for _ in range(2)]
                sides = as_pair(width), as_pair(height)
                self.check_fits(chain, *sides, None not in (limits[1], limits[3]) and
                                number(limits[1]) <= width and number(limits[3]) <= height)
                self.check_covers(chain, *sides, None not in (limits[0], limits[2]) and
                                  number(limits[0]) >= width and number(limits[2]) >= height)

    def test_a_chain_that_always_fits_has_no_result_outside(self):
        for chain in CHAINS:
            limits = limits_of(chain)
            sizes = sizes_to_try(table(chain))[:80]
            if None not in (limits[1], limits[3]):
                self.assertTrue(always_fits(chain, limits[1], limits[3]))
                self.assertTrue(all(chain(size) in Size(limits[1], limits[3]) for size in sizes))
            if None not in (limits[0], limits[2]):
                self.assertTrue(always_covers(chain, limits[0], limits[2]))
                self.assertTrue(all(Size(limits[0], limits[2]) in chain(size) for size in sizes))


class RefusalTest(ProgramTest):

    def test_chains(self):
        for value in NO_CHAINS:
            for call in (always_fits, misfit, always_covers, gap):
                self.assert_refused(InvalidChain, value, call, value, 4, 2)
                self.assert_refused(InvalidChain, value, call, value, 0, None)
                self.assert_refused(InvalidChain, value, call, height=True, width=[4], chain=value)
            self.assert_refused(InvalidChain, value, limits_of, value)
            self.assert_refused(InvalidChain, value, limits_of, chain=value)

    def test_sides(self):
        chain = read("shrink 4x2")
        for call in (always_fits, misfit, always_covers, gap):
            for value in WRONG_SIDES:
                self.assert_refused(InvalidFraction, value, call, chain, value, 2)
                self.assert_refused(InvalidFraction, value, call, chain, 4, value)
                self.assert_refused(InvalidFraction, value, call, chain, value, (2, 2))
                self.assert_refused(InvalidFraction, value, call, height=value, width=4, chain=chain)
                self.assert_refused(InvalidFraction, value, call, height=None, width=value, chain=chain)
        self.assertEqual([misfit(chain, 4, 2), always_fits(chain, 4, 2), str(chain)], [None, True, "shrink 4x2"])


if __name__ == "__main__":
    unittest.main()
