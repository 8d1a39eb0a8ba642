"""Comparing chains (promise 11 of stage 2)."""

import random
import unittest

from sizechains.chains import Chain
from sizechains.comparing import commute, difference, is_stable, same_effect
from sizechains.errors import InvalidChain
from sizechains.sizes import Size
from sizechains.tables import table
from tests.helper import ProgramTest
from tests.model import chain_result, random_chain, random_chains, scaling_chains, sizes_to_try
from tests.test_chains import NO_CHAINS

CHAINS = random_chains()

SAME = (
    ("", ""), ("", "turn 2"), ("", "turn 1, turn 3"), ("turn 1", "turn 3"), ("turn 1, turn 1", "turn 2"),
    ("shrink 4x2, shrink 3x3", "shrink 3x2"), ("shrink 3x3, shrink 4x2", "shrink 3x2"),
    ("shrink 4x2, turn 1", "turn 1, shrink 2x4"), ("landscape, turn 1", "portrait"),
    ("landscape, portrait", "portrait"),
    ("portrait, landscape", "landscape"), ("turn 1, landscape", "landscape"),
    ("grow 9x9, shrink 3x3", "shrink 3x3, grow 3x3"),
    ("width 1:1 left", "width 2:2 right"), ("width 2:1 left, width 1:1 left", "width 1:1 center"),
    ("height 1:2 top, height 1:1 top", "height 1:1 bottom"), ("turn 1, height 1:2 top, turn 1", "width 2:1 left"),
    ("grow 3x2 cover, grow 2x1 cover", "grow 3x2 cover"), ("shrink 1000000x1000000, shrink 1x1", "shrink 1x1"),
    ("width 1:1 left, height 1:1 top, landscape", "height 1:1 top, width 1:1 left, portrait, turn 3"),
)
DIFFERENT = (
    ("", "turn 1"), ("", "landscape"), ("", "portrait"), ("landscape", "portrait"), ("landscape", "turn 1"),
    ("", "shrink 1000000x1000000"), ("", "grow 1x1"), ("shrink 4x2", "shrink 4x2 cover"), ("shrink 4x2", "grow 4x2"),
    ("grow 4x2", "grow 4x2 cover"), ("shrink 4x2", "shrink 4x3"), ("shrink 4x2", "shrink 5x2"),
    ("shrink 1000000x999999", "shrink 999999x1000000"), ("shrink 1000000x999999", "shrink 999999x999998"),
    ("", "width 1000000:1 left"), ("", "height 1:1000000 top"), ("width 1:1 left", "height 1:1 top"),
    ("width 1000000:999999 left", "width 999999:999998 left"), ("width 1:1 left, height 1:1 top", "width 1:1 left"),
    ("grow 9x9, shrink 3x3", "shrink 3x3"), ("grow 9x9, shrink 3x3", "grow 3x3"),
    ("grow 3x3, shrink 3x3", "grow 3x3 cover, shrink 3x3 cover"), ("grow 3x3, shrink 3x3", "grow 4x4, shrink 4x4"),
    ("shrink 4x2, width 1:1 left", "width 1:1 left, shrink 4x2"),
    ("shrink 4x2, grow 2x1", "shrink 4x2, grow 2x1 cover"),
    ("width 1:1 left, height 1:1 top, shrink 3x3, grow 3x3", "width 1:1 left, height 1:1 top, shrink 3x3"),
    ("width 1:1 left, height 1:1 top, shrink 3x3", "width 1:1 left, height 1:1 top, turn 1, grow 3x3"),
    ("width 1:1 left, height 2:1 top", "height 2:1 top, width 1:1 left"),
    ("shrink 4x2, turn 1", "shrink 4x2, turn 2"), ("shrink 4x2, turn 1", "turn 1, shrink 4x2"),
    ("shrink 9x9 cover, grow 1x1", "shrink 9x9 cover, grow 2x1"),
    # These two differ for a few medium heights only, below a ratio, where the widths tell the heights.
    ("height 1:5 top, width 1:7 left, grow 1000x9, shrink 1000x10",
     "height 1:7 top, width 1:7 left, grow 1000x9, shrink 1000x10"),
    # These two differ in a narrow range of ratios only.
    ("shrink 1000000x999999 cover, shrink 999999x1000000 cover",
     "shrink 1000000x999999 cover, shrink 999998x1000000 cover"),
    ("shrink 1000x1000 cover", "shrink 1000x1000 cover, shrink 999x1001 cover"),
)


def read(text):
    return Chain.read(text)


class PairTest(ProgramTest):
    """A test case for what is asked of two chains."""

    def check_each_way(self, check, pairs):
        for one, other in pairs:
            with self.subTest(one=one, other=other):
                check(read(one), read(other))
                check(read(other), read(one))

    def assert_refuses_no_chains(self, call):
        """The call refuses what is no chain, for each of both, the first one first."""
        chain = read("shrink 4x2")
        for value in NO_CHAINS:
            self.assert_refused(InvalidChain, value, call, value, chain)
            self.assert_refused(InvalidChain, value, call, chain, value)
            self.assert_refused(InvalidChain, value, call, value, None)
            self.assert_refused(InvalidChain, value, call, other=None, chain=value)
            self.assert_refused(InvalidChain, value, call, other=value, chain=chain)


class CompareTest(PairTest):

    def check_same(self, chain, other):
        self.assertIs(same_effect(chain, other), True)
        self.assertIsNone(difference(chain, other))
        self.assertEqual(table(chain), table(other))
        for size in sizes_to_try(table(chain))[:60]:
            self.assertEqual(chain_result(str(chain), size), chain_result(str(other), size))

    def check_different(self, chain, other):
        self.assertIs(same_effect(chain, other), False)
        size = difference(chain, other)
        self.assertIs(type(size), Size)
        self.assertNotEqual(table(chain), table(other))
        self.assertNotEqual(chain(size), other(size))
        self.assertNotEqual(chain_result(str(chain), size), chain_result(str(other), size))
        self.assertEqual(difference(read(str(chain)), read(str(other))), size)

    def test_same(self):
        self.check_each_way(self.check_same, SAME)

    def test_different(self):
        self.check_each_way(self.check_different, DIFFERENT)

    def test_any_two(self):
        for chain in CHAINS[::3]:
            for other in CHAINS[::4]:
                if table(chain) == table(other):
                    self.check_same(chain, other)
                else:
                    self.check_different(chain, other)

    def test_small_boxes(self):
        chance = random.Random(11)
        found = {True: 0, False: 0}
        for _ in range(1500):
            chain, other = random_chain(chance, 2, chance.randint(0, 3)), random_chain(chance, 2, chance.randint(0, 3))
            same = table(chain) == table(other)
            found[same] += 1
            (self.check_same if same else self.check_different)(chain, other)
        self.assertGreater(min(found.values()), 50)

    def test_one_step_more(self):
        chance = random.Random(12)
        for chain in CHAINS[::2] + scaling_chains():
            if len(chain) < 60:
                other = chain + random_chain(chance, 30, 1)
                (self.check_same if table(chain) == table(other) else self.check_different)(chain, other)

    def test_rows_that_agree_at_one_ratio(self):
        # At the ratio 1 these agree, and 1 is the first ratio one would try.
        for one, other in (("", "turn 1"), ("width 1:1 left, height 1:1 top", "width 1:1 left, height 1:1 top, turn 1"),
                           ("turn 1, turn 1", "turn 3")):
            chain, second = read(one), read(other)
            (self.check_same if table(chain) == table(second) else self.check_different)(chain, second)

    def test_by_name(self):
        chain, other = read("shrink 4x2"), read("turn 1")
        self.assertIs(same_effect(other=other, chain=chain), False)
        self.assertEqual(difference(other=other, chain=chain), difference(chain, other))
        self.assertIs(commute(other=other, chain=chain), False)
        self.assertIs(is_stable(chain=chain), True)
        self.assertEqual([str(chain), str(other)], ["shrink 4x2", "turn 1"])


class RepeatTest(ProgramTest):

    def test_stable(self):
        for text in ("", "turn 2", "landscape", "portrait", "shrink 4x2", "shrink 4x2 cover", "grow 4x2",
                     "grow 4x2 cover",
                     "width 3:2 left", "height 3:2 top", "landscape, portrait", "grow 9x9, shrink 3x3",
                     "shrink 4x2, width 1:1 left", "turn 1, turn 1", "turn 1, turn 3", "shrink 4x4, turn 2",
                     "width 1:1 left, height 1:1 top, turn 1", "landscape, turn 1, turn 1, turn 1, grow 3x2"):
            self.assertIs(is_stable(read(text)), True, text)

    def test_not_stable(self):
        for text in ("turn 1", "turn 3", "shrink 4x2, turn 1", "shrink 4x4, turn 1", "width 2:1 left, turn 1",
                     "portrait, height 9:5 top", "grow 4x2, width 1:1 left", "grow 3x3, width 2:1 left, turn 3"):
            self.assertIs(is_stable(read(text)), False, text)

    def test_as_performed_twice(self):
        for chain in CHAINS:
            if len(chain) <= 30:
                self.assertIs(is_stable(chain), table(chain + chain) == table(chain))

    def test_commute(self):
        for one, other, expected in (
                ("", "turn 1", True), ("shrink 4x2", "shrink 3x3", True), ("turn 1", "turn 2", True),
                ("shrink 4x4", "turn 1", True), ("shrink 4x2", "turn 1", False), ("shrink 4x4", "landscape", True),
                ("shrink 4x4", "width 1:1 left", False), ("grow 2x2", "shrink 4x4", True),
                ("grow 9x9", "shrink 3x3", False), ("landscape", "portrait", False), ("landscape", "turn 1", False),
                ("width 1:1 left", "height 1:1 top", True), ("width 1:1 left", "height 2:1 top", False),
                ("width 2:1 left", "height 1:2 top", True), ("shrink 4x4", "width 1:1 left, height 1:1 top", False)):
            self.assertIs(commute(read(one), read(other)), expected, (one, other))
            self.assertIs(commute(read(other), read(one)), expected, (one, other))

    def test_commute_as_performed(self):
        for chain in CHAINS[::3]:
            for other in CHAINS[::5]:
                if len(chain) + len(other) <= 60:
                    expected = same_effect(chain + other, other + chain)
                    self.assertIs(commute(chain, other), expected)
            self.assertIs(commute(chain, chain), True)
            self.assertIs(commute(chain, Chain()), True)

    def test_chains_of_sixty_steps(self):
        quarter = read("turn 1") * 60
        box = read("shrink 4x2, turn 1") * 30
        for chain in (quarter, box, read("shrink 4x2") * 60, CHAINS[-1]) + tuple(scaling_chains()):
            self.assertIs(commute(chain, chain), True)
            self.assertIs(is_stable(chain), self.changes_no_results(chain))
        self.assertEqual([is_stable(quarter), is_stable(box), is_stable(read("turn 1") * 59)], [True, True, False])
        # In turn to fit into 4x2 and into 2x4 is to fit into 2x2.
        self.assertEqual([commute(quarter, box), commute(read("turn 1") * 59, box)], [True, True])
        self.assertIs(commute(read("turn 1") * 59, read("shrink 4x2") * 60), False)
        self.assertIs(is_stable(read("turn 1") * 59 + read("landscape")), True)

    def changes_no_results(self, chain):
        """Return True if the chain, performed on its own results, changes nothing, as far as many sizes tell."""
        sizes = sizes_to_try(table(chain))[:400]
        return all(chain(chain(size)) == chain(size) for size in sizes)


class RefusalTest(PairTest):

    def test_the_first_one(self):
        chain = read("shrink 4x2")
        for call in (same_effect, difference, commute):
            self.assert_refuses_no_chains(call)
        for value in NO_CHAINS:
            self.assert_refused(InvalidChain, value, is_stable, value)
            self.assert_refused(InvalidChain, value, is_stable, chain=value)
        self.assertIs(same_effect(chain, chain), True)


if __name__ == "__main__":
    unittest.main()
