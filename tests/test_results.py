"""Results of chains and where they come from (promises 5 to 7 and 14 of stage 3)."""

import random
import unittest
from fractions import Fraction

from sizechains.chains import Chain
from sizechains.errors import InvalidChain, InvalidSize
from sizechains.results import count_sources, has_result, source
from sizechains.sizes import Size
from sizechains.tables import table
from tests.helper import NO_SIZES, ProgramTest
from tests.model import (
    TINY, chain_result, random_chain, random_chains, scaling_chains, sides_of, size_of, sizes_at_bounds, sizes_to_try)
from tests.test_chains import NO_CHAINS

CHAINS = random_chains() + scaling_chains()
MANY = None

# For each chain texts of sizes, with the number of their sources, worked out by hand.
COUNTS = {
    "": {"1x1": 1, "8x9/2": 1, "1/7x7": 1},
    "turn 1": {"1x1": 1, "8x9/2": 1},
    "landscape": {"2x1": 2, "1x1": 1, "1x2": 0, "3x2": 2, "100000000000000000001x100000000000000000000": 2,
                  "100000000000000000000x100000000000000000001": 0},
    "portrait": {"1x2": 2, "1x1": 1, "2x1": 0},
    "landscape, portrait": {"1x2": 2, "1x1": 1, "2x1": 0},
    "landscape, turn 1": {"1x2": 2, "1x1": 1, "2x1": 0},
    "shrink 4x2": {"4x1": MANY, "1x1": 1, "5x1": 0, "4x2": MANY, "1x2": MANY, "1x3": 0, "3x2": MANY, "4x5/2": 0,
                   "39/10x19/10": 1, "1/9x1/9": 1, "399999999999999999999/100000000000000000000x1": 1,
                   "400000000000000000001/100000000000000000000x1": 0},
    "shrink 4x2 cover": {"4x2": MANY, "4x1": 1, "4x3": MANY, "9x2": MANY, "9x3": 0, "9x1": 1, "3x9": 1, "5x2": MANY},
    "grow 4x2": {"4x2": MANY, "4x1": MANY, "3x2": MANY, "3x1": 0, "5x1": 1, "5x2": 1, "3x3": 1, "1/9x2": MANY},
    "grow 4x2 cover": {"4x2": MANY, "4x3": MANY, "9x2": MANY, "5x3": 1, "4x1": 0, "3x9": 0, "9x1": 0},
    "grow 4x4, shrink 4x4": {"4x4": MANY, "4x1": MANY, "1x4": MANY, "1x1": 0, "5x4": 0},
    "landscape, shrink 4x2": {"4x2": MANY, "2x1": 2, "1x1": 1, "1x2": 0, "4x1": MANY, "3/2x1": 2, "2x2": MANY},
    "shrink 4x2, landscape": {"4x2": MANY, "2x1": MANY, "3/2x1": 2, "2x2": MANY, "1x1": 1, "1x2": 0, "7/2x1": 1,
                              "5x1": 0, "4x1": MANY},
    "shrink 4x4, landscape": {"4x2": MANY, "2x1": 2, "4x4": MANY, "4x5": 0, "3x3": 1},
    "width 1:1 left": {"1x1": MANY, "1x2": 1, "2x1": 0, "2x2": MANY},
    "width 3:2 left": {"3x2": MANY, "1x2": 1, "2x1": 0, "6x4": MANY},
    "height 3:2 top": {"3x2": MANY, "1x2": 0, "2x1": 1},
    "width 1:1 left, height 1:1 top": {"1x1": MANY, "5x5": MANY, "1x2": 0, "2x1": 0},
    "width 1:1 left, height 1:1 top, grow 3x3, shrink 3x3": {"3x3": MANY, "1x1": 0, "3x4": 0},
    "width 1:1 left, height 3:1 top, grow 3x3, shrink 5x5": {"3x1": MANY, "5x5/3": MANY, "4x4/3": MANY, "2x2/3": 0,
                                                           "6x2": 0, "4x1": 0, "3x3": 0},
    "shrink 4x2, width 1:1 center": {"2x2": MANY, "1x1": MANY, "3x3": 0, "1x2": MANY, "1x3/2": 1, "2x1": 0},
    "shrink 4x2, width 3:1 left": {"4x2": MANY, "3x1": MANY, "2x2/3": MANY, "4x4/3": MANY, "9/2x3/2": 0,
                                   "7/2x7/6": MANY, "4x1": 0},
    # Beyond 3:1 the height is from 3 / R to 9 / R.
    "grow 3x3, shrink 9x9, width 3:1 left, height 3:1 top": {
        "9x3": MANY, "3x1": MANY, "1x1/3": MANY, "1/900x1/2700": MANY, "10x10/3": 0, "9x9": 0, "4x1": 0},
}


def read(text):
    return Chain.read(text)


def sources_beside(chain, size, found):
    """Return how many sizes on lines through the one that is found lead to the size."""
    width, height = sides_of(found)
    factors = (Fraction(1), 1 + TINY, 1 - TINY)
    sizes = [size_of(width * one, height * other) for one in factors for other in factors]
    return len([near for near in sizes if chain(near) == size])


def turned_sources(chain, size):
    """Return the number of those two sizes that lead to the size if there is no crop and no scaling to undo."""
    return len({str(other) for other in (size, size.turned()) if chain(other) == size})


class SourceTest(ProgramTest):

    def check_source(self, chain, size, expected):
        """The size is a result, or not, and a source of it is one."""
        self.assertIs(has_result(chain, size), expected, (str(chain), str(size)))
        found = source(chain, size)
        self.assertEqual(found is not None, expected)
        if expected:
            self.assertIs(type(found), Size)
            self.assertEqual(chain_result(str(chain), found), size)
        self.assertEqual(source(size=size, chain=chain), found)
        return found

    def check_count(self, chain, size, count):
        self.assertEqual(count_sources(chain, size), count, (str(chain), str(size)))
        self.assertEqual(count_sources(size=size, chain=chain), count)
        found = self.check_source(chain, size, count != 0)
        if count is MANY:
            # Where two rows lead to the size, the one that is found may be alone, and many lie beside the other one.
            self.assertTrue(any(sources_beside(chain, size, near) > 1 for near in (found, size, size.turned())),
                            (str(chain), str(size), str(found)))
        elif count:
            # Only results of no crop and no bound are told apart from all others: they are as old, or turned.
            self.assertEqual(turned_sources(chain, size), count)
            self.assertEqual(sources_beside(chain, size, found), 1)

    def test_by_hand(self):
        for text, counts in COUNTS.items():
            for size, count in counts.items():
                with self.subTest(text=text, size=size):
                    self.check_count(read(text), Size.read(size), count)

    def test_results_are_results(self):
        for chain in CHAINS:
            rows = table(chain)
            sizes = sizes_at_bounds(rows)[::1 + len(rows)] + sizes_to_try(rows)[::1 + 4 * len(rows)]
            for size in sizes[:120 // (5 + len(rows)) + 1]:
                result = chain(size)
                count = count_sources(chain, result)
                self.assertTrue(count is None or count >= 1)
                self.check_count(chain, result, count)

    def test_beside_the_results(self):
        for chain in CHAINS[::2]:
            rows = table(chain)
            for size in sizes_at_bounds(rows)[::3 + len(rows)][:30 // (5 + len(rows)) + 1]:
                width, height = sides_of(chain(size))
                for one, other in ((1 + TINY, 1 + TINY), (1 - TINY, 1 - TINY), (1 + TINY, 1), (1, 1 + TINY)):
                    near = size_of(width * one, height * other)
                    self.check_count(chain, near, count_sources(chain, near))

    def test_where_rows_meet(self):
        for text, size, count in (
                # At the ratio 1 two rows find the same size.
                ("landscape", "3x3", 1), ("portrait", "3x3", 1), ("landscape, shrink 9x9", "3x3", 1),
                ("shrink 9x9, landscape", "3x3", 1), ("shrink 4x2", "2x1", 1), ("grow 4x2", "6x3", 1),
                ("shrink 4x2", "4x2", MANY), ("grow 4x2", "4x2", MANY), ("turn 1, shrink 4x2", "2x1", 1),
                ("shrink 2x4, turn 1", "2x1", 1), ("shrink 4x2, landscape, turn 3", "1/2x1", 2),
                ("width 2:1 left", "2x1", MANY), ("width 2:1 left, landscape", "3/2x1", 2),
                ("width 2:1 left, landscape", "2x1", MANY), ("width 1:2 left, landscape", "4x1", 1),
                ("width 1:2 left, landscape", "2x1", MANY), ("width 1:2 left, landscape", "1x1", 0)):
            self.check_count(read(text), Size.read(size), count)

    def test_a_size_of_few_ratios(self):
        # For a ratio R from 2 on the heights are from 2 / R to 4 / R, from 1 to 2 they are from 1 to 2, below 1 from R
        # to 2 * R.
        chain = read("grow 2x2, shrink 4x4, width 2:1 left, height 2:1 top")
        for height, expected in (
                (2, True), (2 + TINY, False), (Fraction(3, 2), True), (1, True), (Fraction(1, 900), True)):
            self.check_source(chain, size_of(2 * height, height), expected)

    def test_all_results_of_small_sizes(self):
        sides = sorted({Fraction(top, bottom) for top in range(1, 7) for bottom in (1, 2, 3)})
        sizes = [size_of(width, height) for width in sides for height in sides]
        chance = random.Random(55)
        found = {0: 0, 1: 0, 2: 0, None: 0}
        for _ in range(120):
            chain = random_chain(chance, 3, chance.randint(1, 4))
            sources = {}
            for size in sizes:
                sources.setdefault(str(chain(size)), []).append(size)
            for size in sizes[::3] + [Size.read(text) for text in list(sources)[::3]]:
                count = count_sources(chain, size)
                found[count] += 1
                known = len(sources.get(str(size), []))
                self.assertTrue(count is None or known <= count)
                self.assertEqual(has_result(chain, size), count != 0)
                if count is not None:
                    self.assertEqual(turned_sources(chain, size), count, (str(chain), str(size)))
        self.assertGreater(min(found.values()), 200)

    def test_sixty_steps(self):
        for chain in (read("turn 1") * 60, read("shrink 9x5, turn 1") * 30, read("landscape") * 60):
            self.assertEqual(len(chain), 60)
            for size in (Size(3, 2), Size(5, 5), Size(2, 3), Size(6, 5), Size(4, 3)):
                self.check_count(chain, size, count_sources(chain, size))
        self.assertEqual(count_sources(read("landscape") * 60, Size(3, 2)), 2)
        self.assertEqual(count_sources(read("turn 1") * 60, Size(3, 2)), 1)
        self.assertEqual(count_sources(read("shrink 9x5, turn 1") * 30, Size(5, 5)), MANY)
        self.assertEqual(count_sources(read("shrink 9x5, turn 1") * 30, Size(6, 5)), 0)


class RefusalTest(ProgramTest):

    def test_refused(self):
        chain, size = read("shrink 4x2"), Size(4, 1)
        for call in (has_result, source, count_sources):
            for value in NO_CHAINS:
                self.assert_refused(InvalidChain, value, call, value, size)
                self.assert_refused(InvalidChain, value, call, value, None)
                self.assert_refused(InvalidChain, value, call, size=8, chain=value)
            for value in NO_SIZES + (chain,):
                self.assert_refused(InvalidSize, value, call, chain, value)
                self.assert_refused(InvalidSize, value, call, size=value, chain=chain)
        self.assertEqual([has_result(chain, size), count_sources(chain, size)], [True, None])
        self.assertEqual([str(chain), str(size)], ["shrink 4x2", "4x1"])


if __name__ == "__main__":
    unittest.main()
