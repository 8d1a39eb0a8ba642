"""Tables (promise 10 of stage 2)."""

import unittest

from sizechains.chains import Chain
from sizechains.errors import InvalidChain, InvalidSize
from sizechains.exact import compare, is_fraction
from sizechains.sizes import Size
from sizechains.tables import result_by, row_of, table
from tests.helper import FORTY, NO_SIZES, ProgramTest
from tests.model import (
    chain_result, number, random_chains, ratios_to_try, row_result, scaling_chains, size_of, sizes_to_try)
from tests.test_chains import NO_CHAINS

HEIGHT, WIDTH = ((1, 1), "height"), ((1, 1), "width")
CHAINS = random_chains() + scaling_chains()


def flat(number, power=0):
    """Return the bound of an integer or a pair."""
    return (number if isinstance(number, tuple) else (number, 1), power)


# Each with its table, worked out by hand.
TABLES = {
    "": ((None, None, "same", HEIGHT, None, None),),
    "turn 1": ((None, None, "inverse", WIDTH, None, None),),
    "turn 2": ((None, None, "same", HEIGHT, None, None),),
    "turn 3": ((None, None, "inverse", WIDTH, None, None),),
    "turn 1, turn 3": ((None, None, "same", HEIGHT, None, None),),
    "landscape": (
        (None, (1, 1), "inverse", WIDTH, None, None), ((1, 1), None, "same", HEIGHT, None, None)),
    "portrait": (
        (None, (1, 1), "same", HEIGHT, None, None), ((1, 1), None, "inverse", WIDTH, None, None)),
    "landscape, turn 1": (
        (None, (1, 1), "same", HEIGHT, None, None), ((1, 1), None, "inverse", WIDTH, None, None)),
    "landscape, portrait, landscape": (
        (None, (1, 1), "inverse", WIDTH, None, None), ((1, 1), None, "same", HEIGHT, None, None)),
    "shrink 4x2": (
        (None, (2, 1), "same", HEIGHT, None, flat(2)), ((2, 1), None, "same", HEIGHT, None, flat(4, -1))),
    "shrink 4x2 cover": (
        (None, (2, 1), "same", HEIGHT, None, flat(4, -1)), ((2, 1), None, "same", HEIGHT, None, flat(2))),
    "grow 4x2": (
        (None, (2, 1), "same", HEIGHT, flat(2), None), ((2, 1), None, "same", HEIGHT, flat(4, -1), None)),
    "grow 4x2 cover": (
        (None, (2, 1), "same", HEIGHT, flat(4, -1), None), ((2, 1), None, "same", HEIGHT, flat(2), None)),
    "shrink 4x2, turn 1": (
        (None, (2, 1), "inverse", WIDTH, None, flat(2, 1)), ((2, 1), None, "inverse", WIDTH, None, flat(4))),
    "turn 1, grow 4x2": (
        (None, (1, 2), "inverse", WIDTH, flat(4, 1), None), ((1, 2), None, "inverse", WIDTH, flat(2), None)),
    "turn 1, grow 2x1, turn 1": (
        (None, (1, 2), "same", HEIGHT, flat(2), None), ((1, 2), None, "same", HEIGHT, flat(1, -1), None)),
    "width 6:4 left": (
        (None, (3, 2), "same", HEIGHT, None, None), ((3, 2), None, (3, 2), HEIGHT, None, None)),
    "height 3:2 top": (
        (None, (3, 2), (3, 2), ((2, 3), "width"), None, None), ((3, 2), None, "same", HEIGHT, None, None)),
    "turn 1, width 3:2 right": (
        (None, (2, 3), (3, 2), WIDTH, None, None), ((2, 3), None, "inverse", WIDTH, None, None)),
    "turn 1, height 3:2 bottom": (
        (None, (2, 3), "inverse", WIDTH, None, None), ((2, 3), None, (3, 2), ((2, 3), "height"), None, None)),
    "width 1:1 left, height 1:1 top": (
        (None, (1, 1), (1, 1), WIDTH, None, None), ((1, 1), None, (1, 1), HEIGHT, None, None)),
    "width 2:1 left, height 1:1 top": (
        (None, (1, 1), (1, 1), WIDTH, None, None), ((1, 1), (2, 1), "same", HEIGHT, None, None),
        ((2, 1), None, (2, 1), HEIGHT, None, None)),
    "width 1:1 left, height 2:1 top": (
        (None, (1, 1), (2, 1), ((1, 2), "width"), None, None),
        ((1, 1), None, (2, 1), ((1, 2), "height"), None, None)),
    "shrink 4x2, width 1:1 center": (
        (None, (1, 1), "same", HEIGHT, None, flat(2)), ((1, 1), (2, 1), (1, 1), HEIGHT, None, flat(2)),
        ((2, 1), None, (1, 1), HEIGHT, None, flat(4, -1))),
    "shrink 4x2, height 1:1 center, turn 1": (
        (None, (1, 1), (1, 1), WIDTH, None, flat(2, 1)), ((1, 1), (2, 1), "inverse", WIDTH, None, flat(2, 1)),
        ((2, 1), None, "inverse", WIDTH, None, flat(4))),
    "height 2:1 top, shrink 4x4, turn 1": (
        (None, (2, 1), (1, 2), WIDTH, None, flat(4)), ((2, 1), None, "inverse", WIDTH, None, flat(4))),
    "shrink 4x2, shrink 2x3": (
        (None, (1, 1), "same", HEIGHT, None, flat(2)), ((1, 1), None, "same", HEIGHT, None, flat(2, -1))),
    "shrink 4x2 cover, shrink 2x3 cover": (
        (None, (2, 3), "same", HEIGHT, None, flat(2, -1)), ((2, 3), (4, 3), "same", HEIGHT, None, flat(3)),
        ((4, 3), (2, 1), "same", HEIGHT, None, flat(4, -1)), ((2, 1), None, "same", HEIGHT, None, flat(2))),
    "grow 9x9, shrink 3x3": (
        (None, (1, 1), "same", None, flat(3), flat(3)), ((1, 1), None, "same", None, flat(3, -1), flat(3, -1))),
    "grow 4x2 cover, shrink 4x2 cover": (
        (None, (2, 1), "same", None, flat(4, -1), flat(4, -1)), ((2, 1), None, "same", None, flat(2), flat(2))),
    "shrink 4x2, grow 4x2, turn 1": (
        (None, (2, 1), "inverse", None, flat(2, 1), flat(2, 1)), ((2, 1), None, "inverse", None, flat(4), flat(4))),
    "shrink 4x4, grow 2x2 cover": (
        (None, (1, 2), "same", None, flat(2, -1), flat(2, -1)), ((1, 2), (1, 1), "same", HEIGHT, flat(2, -1), flat(4)),
        ((1, 1), (2, 1), "same", HEIGHT, flat(2), flat(4, -1)), ((2, 1), None, "same", None, flat(2), flat(2))),
    "height 1:1 center, width 1:1 center, grow 3x3, shrink 2x2": (
        (None, None, (1, 1), None, flat(2), flat(2)),),
    "height 1:2 top, width 1:3 left, shrink 9x4": (
        (None, (1, 2), (1, 3), ((2, 1), "width"), None, flat(4)), ((1, 2), None, (1, 3), HEIGHT, None, flat(4))),
    "shrink 4x2, shrink 3x3": (
        (None, (3, 2), "same", HEIGHT, None, flat(2)), ((3, 2), None, "same", HEIGHT, None, flat(3, -1))),
}


class ByHandTest(ProgramTest):

    def test_tables(self):
        for text, rows in TABLES.items():
            with self.subTest(text=text):
                self.assertEqual(table(Chain.read(text)), rows)

    def test_what_is_kept_does_not_matter(self):
        for word, keeps in (("width", ("left", "center", "right")), ("height", ("top", "center", "bottom"))):
            tables = [table(Chain.read(f"shrink 9x5, {word} 6:4 {keep}, turn 1")) for keep in keeps]
            self.assertEqual(tables, tables[:1] * 3)

    def test_by_name_and_again(self):
        for chain in CHAINS[::4]:
            self.assertEqual(table(chain=chain), table(chain))
            self.assertEqual(table(Chain.read(str(chain))), table(chain))


class FormTest(ProgramTest):

    def check_bound(self, bound, powers):
        if bound is not None:
            self.assertIs(type(bound), tuple)
            self.assertEqual(len(bound), 2)
            self.assertTrue(is_fraction(bound[0]))
            self.assertIn(bound[1], powers)

    def check_row(self, row):
        self.assertIs(type(row), tuple)
        low, high, ratio, factor, least, most = row
        self.assertTrue(low is None or is_fraction(low))
        self.assertTrue(high is None or is_fraction(high))
        self.assertTrue(low is None or high is None or compare(low, high) < 0)
        self.assertTrue(ratio in ("same", "inverse") or is_fraction(ratio))
        for bound in (least, most):
            self.check_bound(bound, {"same": (0, -1), "inverse": (0, 1)}.get(ratio, (-1, 0, 1)))
        self.assertEqual(factor is None, least is not None and least == most)
        if factor is not None:
            self.assertIs(type(factor), tuple)
            self.assertTrue(is_fraction(factor[0]))
            self.assertIn(factor[1], ("height", "width"))
        if least is not None and most is not None:
            for end in [end for end in (low, high) if end is not None]:
                at_end = [number(f) * number(end) ** power for f, power in (least, most)]
                self.assertLessEqual(at_end[0], at_end[1])

    def test_rows(self):
        for chain in CHAINS:
            rows = table(chain)
            self.assertIs(type(rows), tuple)
            self.assertEqual([rows[0][0], rows[-1][1]], [None, None])
            for row in rows:
                self.check_row(row)
            for row, following in zip(rows, rows[1:]):
                self.assertIsNotNone(row[1])
                self.assertEqual(row[1], following[0])
                # Otherwise the two were one row: on an interval an effect has one description only.
                self.assertNotEqual(row[2:], following[2:])

    def test_many_rows(self):
        # Sixty corners, and sixty breaks between them.
        self.assertEqual([len(table(chain)) for chain in scaling_chains()[:2]], [120, 120])
        self.assertGreater(len(table(scaling_chains()[2])), 10)


class ResultTest(ProgramTest):

    def test_the_row_gives_what_the_steps_lead_to(self):
        for chain in CHAINS:
            rows = table(chain)
            for size in sizes_to_try(rows)[:: 1 + len(rows) // 4]:
                holding = [row for row in rows if (row[0] is None or compare(row[0], size.ratio) <= 0)
                           and (row[1] is None or compare(size.ratio, row[1]) <= 0)]
                result = chain_result(str(chain), size)
                self.assertEqual(chain(size), result)
                for row in holding:
                    self.assertEqual(row_result(row, size), result, (str(chain), size))
                    self.assertEqual(result_by(row, size), result, (str(chain), size))

    def test_first_row_that_holds(self):
        for chain in CHAINS[::3]:
            rows = table(chain)
            for ratio in ratios_to_try(rows)[::1 + len(rows) // 4]:
                size = size_of(ratio * 3, 3)
                row = next(row for row in rows if row[1] is None or compare(size.ratio, row[1]) <= 0)
                self.assertEqual(row_of(chain, size), row)
                self.assertEqual(row_of(size=size, chain=chain), row)

    def test_at_the_limit_of_two_rows(self):
        chain = Chain.read("shrink 4x2")
        first, second = table(chain)
        for size in (Size(2, 1), Size(4, 2), Size(FORTY * 2, FORTY)):
            self.assertEqual(row_of(chain, size), first)
            self.assertEqual(result_by(first, size), result_by(second, size))
        self.assertEqual(row_of(chain, Size(2 * FORTY + 1, FORTY)), second)
        self.assertEqual(row_of(chain, Size(2 * FORTY - 1, FORTY)), first)

    def test_scaled_sizes_stay_in_their_row(self):
        for chain in CHAINS[::3]:
            for ratio in ratios_to_try(table(chain))[:12]:
                size = size_of(ratio, 1)
                for factor in (2, (1, 3), (FORTY, FORTY + 1)):
                    self.assertEqual(row_of(chain, size * factor), row_of(chain, size))

    def test_results_by_hand(self):
        for row, size, result in (
                ((None, None, "same", HEIGHT, None, None), Size(8, 6), "8x6"),
                ((None, None, "inverse", WIDTH, None, None), Size(8, 6), "6x8"),
                ((None, None, (3, 1), ((1, 2), "width"), None, None), Size(8, 6), "12x4"),
                ((None, None, (3, 1), ((1, 2), "height"), None, None), Size(8, 6), "9x3"),
                ((None, None, "same", HEIGHT, flat(9), None), Size(8, 6), "12x9"),
                ((None, None, "same", HEIGHT, flat(6), flat(6, 1)), Size(8, 6), "8x6"),
                ((None, None, "same", HEIGHT, flat(2), flat(3)), Size(8, 6), "4x3"),
                ((None, None, "same", HEIGHT, flat(2), flat(4, -1)), Size(8, 6), "4x3"),
                ((None, None, "inverse", WIDTH, flat(12, 1), None), Size(8, 6), "12x16"),
                ((None, None, (1, 1), None, flat((3, 2)), flat((3, 2))), Size(8, 6), "3/2x3/2"),
                ((None, None, "same", None, flat(4, -1), flat(4, -1)), Size(8, 6), "4x3"),
                ((None, None, "same", None, flat(3, 1), flat(3, 1)), Size(8, 6), "16/3x4")):
            self.assertEqual(str(result_by(row, size)), result)
            self.assertEqual(str(result_by(size=size, row=row)), result)
            self.assertEqual(str(size), "8x6")


class RefusalTest(ProgramTest):

    def test_chains(self):
        for value in NO_CHAINS:
            self.assert_refused(InvalidChain, value, table, value)
            self.assert_refused(InvalidChain, value, table, chain=value)
            self.assert_refused(InvalidChain, value, row_of, value, Size(1, 1))
            self.assert_refused(InvalidChain, value, row_of, size=None, chain=value)
        self.assertEqual(len(table(Chain())), 1)

    def test_sizes(self):
        chain = Chain.read("shrink 4x2")
        row = table(chain)[0]
        for value in NO_SIZES + (chain, row):
            self.assert_refused(InvalidSize, value, row_of, chain, value)
            self.assert_refused(InvalidSize, value, result_by, row, value)
            self.assert_refused(InvalidSize, value, result_by, size=value, row=row)
        self.assertEqual(result_by(row_of(chain, Size(8, 6)), Size(8, 6)), chain(Size(8, 6)))

    def test_nothing_is_changed(self):
        chain, size = Chain.read("shrink 4x2, landscape, width 1:1 left"), Size(8, 6)
        rows = table(chain)
        kept = repr(rows)
        result_by(row_of(chain, size), size)
        self.assertEqual([str(chain), str(size), repr(rows), repr(table(chain))],
                         ["shrink 4x2, landscape, width 1:1 left", "8x6", kept, kept])


if __name__ == "__main__":
    unittest.main()
