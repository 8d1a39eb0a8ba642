"""Records and the boxes that explain them (promises 11 to 14 of stage 3)."""

import random
import unittest
from fractions import Fraction
from itertools import combinations

from sizechains.chains import Chain
from sizechains.errors import InvalidKind, InvalidRecords, InvalidStep
from sizechains.records import barring, explains, find_box
from sizechains.sizes import Size
from sizechains.steps import CropWidth, Grow, Landscape, Shrink, Step, Turn
from tests.helper import FORTY, LONG, ProgramTest
from tests.model import scaled, sides_of, size_of
from tests.test_steps import Agreeable

MOST = 10 ** 6
KINDS = [(kind, cover) for kind in ("shrink", "grow") for cover in (False, True)]
CLASSES = {"shrink": Shrink, "grow": Grow}
NO_KINDS = (
    None, True, 0, 1, "", "Shrink", "shrink ", " shrink", "shrink cover", "grow cover", "fit", "cover", "turn", "width",
    b"shrink", ("shrink",), ["shrink"], {}, set(), Shrink, Shrink(1, 1), object(), Agreeable(),
)
NO_SCALINGS = (
    None, True, 0, "shrink", "shrink 4x2", b"shrink 4x2", (4, 2), [Shrink(4, 2)], Shrink, Step, Turn(), Landscape(),
    CropWidth(4, 2), Chain(Shrink(4, 2)), Size(4, 2), {}, set(), object(), Agreeable(),
)
ONE = (Size(8, 6), Size(4, 3))
NO_RECORDS = (
    None, True, 0, 8, "", "8x6", (), (Size(8, 6),), (Size(8, 6), Size(4, 3), Size(2, 1)), [Size(8, 6), Size(4, 3)],
    (Size(8, 6), None), (None, Size(4, 3)), (Size(8, 6), "4x3"), ("8x6", "4x3"), ((8, 6), (4, 3)), (Size(8, 6), (4, 3)),
    (Size, Size), {Size: Size}, {}, set(), object(), Agreeable(), (Agreeable(), Agreeable()), (ONE, ONE), (ONE,),
)


def record(before, after):
    return (Size.read(before), Size.read(after))


def records_of(*texts):
    """Return the records with these texts, each of the form `BEFORE to AFTER`."""
    return tuple([record(*text.split(" to ")) for text in texts])


# Kinds of scalings, records, whether some box explains them, and the records that bar a box, worked out by hand.
BY_HAND = (
    ("shrink", False, ("8x6 to 4x3", "2x2 to 2x2"), True, None),
    ("shrink", False, ("8x6 to 4x3", "2x2 to 2x2", "8x8 to 2x2"), False, (0, 2)),
    ("shrink", False, ("8x6 to 4x3",), True, None),
    ("shrink", False, ("8x6 to 5x3",), False, (0,)),
    ("shrink", False, ("8x6 to 16x12",), False, (0,)),
    ("shrink", False, ("8x6 to 8x6",), True, None),
    ("shrink", False, ("5x3 to 5/2x3/2",), False, (0,)),
    ("shrink", False, ("5x6 to 5/2x3",), True, None),
    ("shrink", False, ("6x5 to 3x5/2",), True, None),
    ("shrink", False, ("5x6 to 5/2x3", "3x1 to 3x1"), True, None),
    ("shrink", False, ("5x6 to 5/2x3", "3x7/2 to 3x7/2"), False, (0, 1)),
    # Each two have a box, for the first of them one side is that of the box, which the others do not agree on.
    ("shrink", False, ("8x6 to 4x3", "2x5 to 2x5", "6x2 to 6x2"), False, (0, 1, 2)),
    ("shrink", False, ("1x1 to 1x1", "2x5 to 2x5", "8x6 to 4x3", "6x2 to 6x2", "2x5 to 2x5"), False, (1, 2, 3)),
    ("shrink", False, ("2x5 to 2x5", "6x2 to 6x2"), True, None),
    ("shrink", False, ("8x6 to 4x3", "2x5 to 2x5"), True, None),
    ("shrink", False, ("9x3 to 6x2", "3x9 to 5/3x5"), True, None),
    ("shrink", False, ("2000000x2 to 1000000x1",), True, None),
    ("shrink", False, ("2000002x2 to 1000001x1",), False, (0,)),
    ("shrink", False, ("1000000x1000000 to 1000000x1000000",), True, None),
    ("shrink", False, ("1x1000001 to 1x1000001",), False, (0,)),
    ("shrink", False, ("1x1 to 1x1", "1x2000001/2 to 1x2000001/2"), False, (1,)),
    ("shrink", False, ("2x2 to 1x1", "4x4 to 1x1"), True, None),
    ("shrink", False, ("2x2 to 1/2x1/2",), False, (0,)),
    ("shrink", True, ("8x6 to 4x3",), True, None),
    ("shrink", True, ("2000002x2 to 1000001x1",), True, None),
    ("shrink", True, ("2000002x2000002 to 1000001x1000001",), False, (0,)),
    ("shrink", True, ("1x1000001 to 1x1000001",), True, None),
    ("shrink", True, ("1000001x1000001 to 1000001x1000001",), False, (0,)),
    ("shrink", True, ("8x6 to 4x3", "9x1 to 9x1"), True, None),
    ("shrink", True, ("8x6 to 4x3", "5x4 to 5x4"), False, (0, 1)),
    # The first one wants one of the sides, and the others two different ones of them.
    ("shrink", True, ("8x6 to 4x3", "8x2 to 8x2", "3x9 to 3x9"), True, None),
    ("shrink", True, ("8x6 to 4x3", "16x2 to 12x3/2"), False, (0, 1)),
    ("shrink", True, ("2x2 to 1/2x1/2",), False, (0,)),
    ("grow", False, ("4x3 to 8x6", "8x8 to 8x8"), True, None),
    ("grow", False, ("4x3 to 8x6", "8x5 to 8x5"), True, None),
    ("grow", False, ("4x3 to 8x6", "7x5 to 7x5"), False, (0, 1)),
    ("grow", False, ("8x6 to 4x3",), False, (0,)),
    ("grow", False, ("1x1 to 1000000x1000000",), True, None),
    ("grow", False, ("1x1 to 1000001x1000001",), False, (0,)),
    ("grow", False, ("1x2 to 1000000x2000000",), False, (0,)),
    ("grow", False, ("1/3x1 to 1/3x1",), True, None),
    ("grow", False, ("1/3x1/3 to 1/3x1/3",), False, (0,)),
    ("grow", False, ("1/3x1/3 to 1x1",), True, None),
    ("grow", True, ("4x3 to 8x6", "9x9 to 9x9"), True, None),
    ("grow", True, ("4x3 to 8x6", "7x9 to 7x9"), True, None),
    ("grow", True, ("4x3 to 8x6", "7x5 to 7x5"), False, (0, 1)),
    ("grow", True, ("4x3 to 8x6", "7x9 to 7x9", "9x5 to 9x5"), False, (0, 1, 2)),
    ("grow", True, ("9x5 to 9x5", "1x1 to 1x1"), True, None),
    ("grow", True, ("9x5 to 9x5", "1x3/4 to 1x3/4"), False, (1,)),
    ("grow", True, ("1x1 to 1000000x1000000",), True, None),
    ("grow", True, ("1x2 to 1000000x2000000",), True, None),
    ("grow", True, ("1x1 to 1000001x1000001",), False, (0,)),
)


def boxes_explain(kind, cover, sides, most):
    """Return for each record, a pair of pairs of sides, the set of the boxes with sides up to most that explain it."""
    found = []
    for before, after in sides:
        found.append({(width, height) for width in range(1, most + 1) for height in range(1, most + 1)
                      if scaled(kind, (width, height), cover, *before) == after})
    return found


def least_barring(sets):
    """Return the least of the shortest tuples of indexes of sets that have nothing in common, None if there is none."""
    for count in range(1, len(sets) + 1):
        for indexes in combinations(range(len(sets)), count):
            if not set.intersection(*[sets[index] for index in indexes]):
                return indexes
    return None


class BoxTest(ProgramTest):

    def check_box(self, kind, cover, records, expected):
        """There is a box, or none, and what is found shows it."""
        step = find_box(kind, records, cover=cover)
        barred = barring(kind, records, cover=cover)
        self.assertEqual(step is not None, expected, (kind, cover, records))
        self.assertEqual(barred is None, expected, (kind, cover, records))
        if step is not None:
            self.assertIs(type(step), CLASSES[kind])
            self.assertIs(step.cover, cover)
            self.assertIs(explains(step, records), True)
            for before, after in records:
                self.assertEqual(size_of(*scaled(kind, (step.width, step.height), cover, *sides_of(before))), after)
        else:
            self.check_barring(kind, cover, records, barred)
        self.assertEqual(find_box(cover=cover, records=records, kind=kind), step)
        self.assertEqual(barring(cover=cover, records=records, kind=kind), barred)

    def check_barring(self, kind, cover, records, barred):
        """No box explains these records, but one does if any one of them is left out."""
        self.assertIs(type(barred), tuple)
        self.assertTrue(1 <= len(barred) <= 3)
        self.assertEqual(list(barred), sorted(set(barred)))
        chosen = [records[index] for index in barred]
        self.assertIsNone(find_box(kind, tuple(chosen), cover=cover))
        for index in range(len(chosen)):
            self.assertIsNotNone(find_box(kind, tuple(chosen[:index] + chosen[index + 1:]), cover=cover))

    def check_all_boxes(self, kind, cover, sides, most):
        """What is answered agrees with a look at all boxes with sides up to most; return how many records bar them."""
        barred = least_barring(boxes_explain(kind, cover, sides, most))
        records = tuple([(size_of(*before), size_of(*after)) for before, after in sides])
        self.assertEqual(barring(kind, records, cover=cover), barred, (kind, cover, records))
        self.check_box(kind, cover, records, barred is None)
        return None if barred is None else len(barred)

    def test_by_hand(self):
        for kind, cover, texts, expected, barred in BY_HAND:
            with self.subTest(kind=kind, cover=cover, texts=texts):
                records = records_of(*texts)
                self.check_box(kind, cover, records, expected)
                self.assertEqual(barring(kind, records, cover=cover), barred)

    def test_to_fit_is_what_is_meant_if_nothing_is_said(self):
        for kind, cover, texts, expected, barred in BY_HAND:
            if not cover:
                self.assertEqual(find_box(kind, records_of(*texts)) is not None, expected)
                self.assertEqual(barring(kind, records_of(*texts)), barred)
        self.assertIs(find_box("shrink", ()).cover, False)

    def test_no_records(self):
        for kind, cover in KINDS:
            self.check_box(kind, cover, (), True)
            self.assertIs(explains(CLASSES[kind](4, 2, cover=cover), ()), True)

    def test_small_boxes(self):
        chance = random.Random(131)
        found = dict.fromkeys((None, 1, 2, 3), 0)
        sides = [Fraction(side, 2) for side in (5, 6, 7, 8, 10, 12)]
        for turn in range(800):
            kind, cover = KINDS[turn % 4]
            # Results of a few boxes, so that some records are explained together and some are not.
            boxes = [(chance.randint(1, 5), chance.randint(1, 5)) for _ in range(chance.randint(1, 3))]
            befores = [(chance.choice(sides), chance.choice(sides)) for _ in range(chance.randint(1, 6))]
            records = [(before, scaled(kind, chance.choice(boxes), cover, *before)) for before in befores]
            # No result has a side above 12, and beyond that all boxes are alike.
            found[self.check_all_boxes(kind, cover, records, 13)] += 1
        self.assertGreater(min(found[count] for count in (None, 2)), 100)

    def test_one_that_changes_among_others(self):
        chance = random.Random(132)
        found = dict.fromkeys((None, 1, 2, 3), 0)
        for turn in range(800):
            kind, cover = KINDS[turn % 4]
            corner = (Fraction(chance.randint(2, 5)), Fraction(chance.randint(2, 5)))
            factor = 2 if kind == "shrink" else Fraction(1, 2)
            records = [((corner[0] * factor, corner[1] * factor), corner)]
            for _ in range(chance.randint(2, 4)):
                sides = (Fraction(chance.randint(2, 14), 2), Fraction(chance.randint(2, 14), 2))
                records.insert(chance.randint(0, len(records)), (sides, sides))
            found[self.check_all_boxes(kind, cover, records, 8)] += 1
        self.assertGreater(min(found[count] for count in (None, 2, 3)), 30)

    def test_any_records(self):
        chance = random.Random(133)
        sides = [Fraction(side, part) for side in (1, 2, 3, 4, 6) for part in (1, 2, 3)]
        found = dict.fromkeys((None, 1, 2, 3), 0)
        for turn in range(800):
            kind, cover = KINDS[turn % 4]
            records = []
            for _ in range(chance.randint(1, 3)):
                before = (chance.choice(sides), chance.choice(sides))
                by = (chance.choice((Fraction(1, 3), Fraction(1, 2), Fraction(1), Fraction(2))), Fraction(1))
                records.append((before, (before[0] * by[0], before[1] * by[chance.random() < 0.05])))
            found[self.check_all_boxes(kind, cover, records, 13)] += 1
        self.assertGreater(min(found[count] for count in (None, 1, 2)), 20)

    def test_forty_records(self):
        chance = random.Random(134)
        for kind, cover in KINDS:
            box = CLASSES[kind](chance.randint(1, MOST), chance.randint(1, MOST), cover=cover)
            befores = [size_of(Fraction(chance.randint(1, 10 ** 12), chance.randint(1, 10 ** 6)),
                               Fraction(chance.randint(1, 10 ** 12), chance.randint(1, 10 ** 6))) for _ in range(40)]
            records = tuple([(before, box.apply(before)) for before in befores])
            self.check_box(kind, cover, records, True)
            other = CLASSES[kind](box.width, box.height % MOST + 1, cover=cover)
            mixed = tuple([(before, chance.choice((box, other)).apply(before)) for before in befores])
            self.check_box(kind, cover, mixed, barring(kind, mixed, cover=cover) is None)
            wrong = records[:39] + ((Size(3, 2), Size(2, 2)),)
            self.check_box(kind, cover, wrong, False)
            self.assertEqual(barring(kind, wrong, cover=cover), (39,))

    def test_the_last_three_of_forty(self):
        quiet = records_of(*["1x1 to 1x1"] * 37)
        records = quiet + records_of("8x6 to 4x3", "2x5 to 2x5", "6x2 to 6x2")
        self.check_box("shrink", False, records, False)
        self.assertEqual(barring("shrink", records), (37, 38, 39))
        self.check_box("shrink", False, quiet + records[37:39], True)

    def test_great_numbers(self):
        for kind, cover in KINDS:
            for side in (FORTY, LONG):
                self.check_box(kind, cover, ((Size(side, side), Size(side, side)),), kind == "grow")
                small = Size((1, side), (2, side))
                self.check_box(kind, cover, ((small, small),), kind == "shrink")
                self.check_box(kind, cover, ((Size(side, side), Size(7, 7)),), kind == "shrink")
                self.check_box(kind, cover, ((Size((1, side), (1, side)), Size(7, 7)),), kind == "grow")


class ExplainsTest(ProgramTest):

    def test_as_applied(self):
        chance = random.Random(135)
        found = {True: 0, False: 0}
        for turn in range(800):
            kind, cover = KINDS[turn % 4]
            step = CLASSES[kind](chance.randint(1, 5), chance.randint(1, 5), cover=cover)
            records = []
            for _ in range(chance.randint(0, 4)):
                before = Size(chance.randint(1, 6), chance.randint(1, 6))
                after = step.apply(before) if chance.random() < 0.8 else before
                records.append((before, after))
            expected = all([size_of(*scaled(kind, (step.width, step.height), cover, *sides_of(before))) == after
                            for before, after in records])
            found[expected] += 1
            self.assertIs(explains(step, tuple(records)), expected)
            self.assertIs(explains(records=tuple(records), step=step), expected)
        self.assertGreater(min(found.values()), 80)

    def test_one_that_is_not_explained(self):
        step = Shrink(4, 3)
        for place in range(40):
            records = [ONE] * 40
            self.assertIs(explains(step, tuple(records)), True)
            records[place] = (Size(8, 6), Size(4, (3 * 10 ** 20 + 1, 10 ** 20)))
            self.assertIs(explains(step, tuple(records)), False)


class RefusalTest(ProgramTest):

    def test_steps(self):
        for value in NO_SCALINGS:
            self.assert_refused(InvalidStep, value, explains, value, (ONE,))
            self.assert_refused(InvalidStep, value, explains, value, None)
            self.assert_refused(InvalidStep, value, explains, records=[], step=value)
        self.assertIs(explains(Shrink(4, 3), (ONE,)), True)

    def test_kinds(self):
        for value in NO_KINDS:
            for call in (find_box, barring):
                self.assert_refused(InvalidKind, value, call, value, (ONE,))
                self.assert_refused(InvalidKind, value, call, value, None)
                self.assert_refused(InvalidKind, value, call, cover=True, records=[], kind=value)
        self.assertIsNone(barring("shrink", (ONE,)))

    def calls(self):
        yield lambda records: explains(Shrink(4, 3), records)
        yield lambda records: explains(records=records, step=Grow(4, 3))
        for call in (find_box, barring):
            yield lambda records, call=call: call("shrink", records)
            yield lambda records, call=call: call("grow", records, cover=True)
            yield lambda records, call=call: call(records=records, kind="grow")

    def test_what_is_no_tuple_or_too_long(self):
        for value in (None, True, 0, "", "8x6", [], [ONE], {}, {0: ONE}, set(), object(), Size(8, 6), Shrink(4, 3), len,
                      Agreeable(), (ONE,) * 41, (None,) * 41, (ONE,) * 1000, tuple(range(41))):
            for call in self.calls():
                self.assert_told(InvalidRecords, "index", None, call, value)
        for call in self.calls():
            call((ONE,) * 40)

    def test_what_is_no_record(self):
        for value in NO_RECORDS:
            for call in self.calls():
                for index in (0, 1, 2, 39):
                    records = [ONE] * 40
                    records[index] = value
                    self.assert_told(InvalidRecords, "index", index, call, tuple(records))
                self.assert_told(InvalidRecords, "index", 1, call, (ONE, value, value))
                self.assert_told(InvalidRecords, "index", None, call, (value,) * 41)

    def test_nothing_is_changed(self):
        records = records_of("8x6 to 4x3", "2x5 to 2x5", "6x2 to 6x2")
        kept = repr(records)
        for call in self.calls():
            call(records)
            self.assertEqual(repr(records), kept)


if __name__ == "__main__":
    unittest.main()
