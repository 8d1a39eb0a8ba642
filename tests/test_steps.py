"""Steps (promises 1 to 8 of stage 2)."""

import copy
import unittest
from fractions import Fraction

from sizechains.errors import InvalidBox, InvalidKeep, InvalidSize, InvalidText, InvalidTimes
from sizechains.exact import compare, fraction
from sizechains.sizes import Size
from sizechains.steps import Crop, CropHeight, CropWidth, Grow, Landscape, Portrait, Scaling, Shrink, Step, Turn
from tests.helper import FORTY, LONG, ProgramTest
from tests.model import TINY, sides_of, size_of, step_result

MOST = 10 ** 6
SCALINGS = (Shrink, Grow)
CROPS = (CropWidth, CropHeight)
WORDS = {Shrink: "shrink", Grow: "grow", CropWidth: "width", CropHeight: "height", Turn: "turn",
         Landscape: "landscape", Portrait: "portrait"}
KEEPS = {CropWidth: ("left", "center", "right"), CropHeight: ("top", "center", "bottom")}
BOXES = ((1, 1), (4, 2), (3, 5), (5, 3), (1, MOST), (MOST, 1), (MOST, MOST), (MOST - 1, MOST))

WRONG_SIDES = (
    None, True, False, 0, -1, -4, MOST + 1, FORTY, -FORTY, LONG, "", "4", "4x2", b"4", (), (4,), (4, 1), (1, 2), [4],
    [], {4: 2}, {4}, {}, set(), object(), int, len, Size(4, 2), Turn(), Shrink(4, 2), InvalidBox(4),
)


class Agreeable:
    """Claims to be equal to everything."""

    def __eq__(self, other):
        return True

    def __ne__(self, other):
        return True


class Lookalike:
    """Has what a step has, but is none."""

    WORD = "shrink"

    def __init__(self):
        self.width, self.height, self.cover = 4, 2, False

    def __str__(self):
        return "shrink 4x2"


NO_STEPS = (
    None, True, 0, 1, (4, 2), ("shrink", 4, 2), [4, 2], "", "shrink 4x2", "turn 1", "landscape", b"turn 1", object(),
    {"width": 4}, Size(4, 2), Shrink, Step, InvalidText("turn 1"), Lookalike(),
)


def all_steps():
    """Return steps, no two of them equal."""
    covers = (True, False)
    steps = [kind(width, height, cover=cover) for kind in SCALINGS for width, height in BOXES for cover in covers]
    steps += [kind(width, height, keep=keep) for kind in CROPS for width, height in BOXES for keep in KEEPS[kind]]
    return steps + [Turn(1), Turn(2), Turn(3), Landscape(), Portrait()]


STEPS = all_steps()


def sizes_around(width, height):
    """Return sizes below, at and above the box and its ratio, and 10 ** -20 beside both."""
    factors = (1 - TINY, Fraction(1), 1 + TINY, Fraction(1, 2), Fraction(2), Fraction(7, 3))
    sizes = [size_of(width * one, height * other) for one in factors for other in factors]
    shares = (Fraction(1, 10 ** 30), Fraction(10 ** 30), Fraction(22, 7))
    return sizes + [size_of(width * share, height * share * by) for share in shares for by in factors]


OTHER_SIZES = [size_of(width, height) for width, height in (
    (1, 1), (8, 6), (6, 8), (FORTY, FORTY), (FORTY, FORTY + 1), (FORTY + 1, FORTY), (Fraction(1, FORTY), FORTY),
    (FORTY, Fraction(1, FORTY)), (Fraction(9, 2), Fraction(9, 4)), (1, 1 + TINY), (1 + TINY, 1), (1, 1 - TINY))]
SIZES = [size for width, height in BOXES for size in sizes_around(width, height)] + OTHER_SIZES


def result(step, size):
    return str(step.apply(size))


def sizes_for(step):
    if isinstance(step, (Scaling, Crop)):
        return sizes_around(step.width, step.height) + OTHER_SIZES
    return SIZES


class ApplyTest(ProgramTest):

    def test_as_the_points_say(self):
        for step in STEPS:
            for size in sizes_for(step):
                after = step.apply(size)
                self.assertIs(type(after), Size)
                self.assertEqual(sides_of(after), step_result(str(step), *sides_of(size)), (step, size))

    def test_shrink(self):
        for size, fit, cover in (
                (Size(8, 6), "8/3x2", "4x3"), (Size(4, 2), "4x2", "4x2"), (Size(8, 4), "4x2", "4x2"),
                (Size(2, 1), "2x1", "2x1"), (Size(4, 1), "4x1", "4x1"), (Size(8, 1), "4x1/2", "8x1"),
                (Size(1, 8), "1/4x2", "1x8"), (Size(8, 8), "2x2", "4x4"), (Size((9, 2), (9, 2)), "2x2", "4x4"),
                (Size(4, 3), "8/3x2", "4x3"), (Size(5, 2), "4x8/5", "5x2")):
            self.assertEqual(result(Shrink(4, 2), size), fit)
            self.assertEqual(result(Shrink(4, 2, cover=True), size), cover)

    def test_grow(self):
        for size, fit, cover in (
                (Size(2, 1), "4x2", "4x2"), (Size(4, 2), "4x2", "4x2"), (Size(8, 6), "8x6", "8x6"),
                (Size(1, 1), "2x2", "4x4"), (Size(8, 1), "8x1", "16x2"), (Size(1, 8), "1x8", "4x32"),
                (Size((1, 2), (1, 3)), "3x2", "4x8/3"), (Size(4, 1), "4x1", "8x2"), (Size(3, 2), "3x2", "4x8/3")):
            self.assertEqual(result(Grow(4, 2), size), fit)
            self.assertEqual(result(Grow(4, 2, cover=True), size), cover)

    def test_crops(self):
        for size, by_width, by_height in (
                (Size(8, 6), "8x6", "8x16/3"), (Size(9, 6), "9x6", "9x6"), (Size(10, 6), "9x6", "10x6"),
                (Size(1, 6), "1x6", "1x2/3"), (Size(600, 6), "9x6", "600x6"),
                (Size((1, 3), (1, 5)), "3/10x1/5", "1/3x1/5")):
            for keep in KEEPS[CropWidth]:
                self.assertEqual(result(CropWidth(3, 2, keep=keep), size), by_width)
                self.assertEqual(result(CropWidth(6, 4, keep=keep), size), by_width)
            for keep in KEEPS[CropHeight]:
                self.assertEqual(result(CropHeight(3, 2, keep=keep), size), by_height)
                self.assertEqual(result(CropHeight(6, 4, keep=keep), size), by_height)

    def test_turns(self):
        for size, quarter, landscape, portrait in (
                (Size(8, 6), "6x8", "8x6", "6x8"), (Size(6, 8), "8x6", "8x6", "6x8"), (Size(6, 6), "6x6", "6x6", "6x6"),
                (Size((1, 2), 3), "3x1/2", "3x1/2", "1/2x3")):
            self.assertEqual([result(Turn(times), size) for times in (1, 2, 3)], [quarter, str(size), quarter])
            self.assertEqual([result(Turn(), size), result(Landscape(), size), result(Portrait(), size)],
                             [quarter, landscape, portrait])

    def test_the_size_and_the_step_stay(self):
        for step in STEPS:
            before = vars(step).copy()
            for size in (Size(8, 6), Size(6, 8), Size((1, 3), 10 ** 7), Size(10 ** 7, (1, 3))):
                kept = (size.width, size.height)
                step.apply(size)
                self.assertEqual((size.width, size.height), kept)
            self.assertEqual(vars(step), before)

    def test_by_name(self):
        for step in STEPS:
            self.assertEqual(step.apply(size=Size(8, 6)), step.apply(Size(8, 6)))

    def test_refuses_what_is_no_size(self):
        for step in STEPS[::7] + STEPS[-5:]:
            for value in (None, True, 0, 8, (8, 6), ((8, 1), (6, 1)), [8, 6], "8x6", b"8x6", object(), Size, step,
                          Lookalike(), InvalidSize(8)):
                self.assert_refused(InvalidSize, value, step.apply, value)
                self.assert_refused(InvalidSize, value, step.apply, size=value)
            self.assertIs(type(step.apply(Size(8, 6))), Size)


class EverySizeTest(ProgramTest):

    def test_done_again(self):
        for step in STEPS:
            for size in sizes_for(step):
                once = step.apply(size)
                again = step.apply(once)
                if isinstance(step, Turn):
                    self.assertEqual(step.apply(step.apply(again)), size)
                    self.assertEqual(again, size)
                else:
                    self.assertEqual(again, once, (step, size))

    def test_scalings(self):
        for step in STEPS:
            if isinstance(step, Scaling):
                box = Size(step.width, step.height)
                for size in sizes_for(step):
                    after = step.apply(size)
                    self.assertEqual(after.ratio, size.ratio)
                    if isinstance(step, Shrink):
                        self.assertIs(after in size, True)
                        self.assertIs(step.cover or after in box, True)
                    else:
                        self.assertIs(size in after, True)
                        self.assertIs(not step.cover or box in after, True)

    def test_crops(self):
        for step in STEPS:
            if isinstance(step, Crop):
                wanted = fraction(step.width, step.height)
                for size in sizes_for(step):
                    after = step.apply(size)
                    sign = compare(after.ratio, wanted)
                    self.assertIs(after in size, True)
                    if after != size:
                        self.assertEqual(sign, 0)
                    self.assertIn(sign, (-1, 0) if isinstance(step, CropWidth) else (0, 1))
                    kept = "height" if isinstance(step, CropWidth) else "width"
                    self.assertEqual(getattr(after, kept), getattr(size, kept))

    def test_landscape_and_portrait(self):
        for size in SIZES:
            high, wide = Portrait().apply(size), Landscape().apply(size)
            self.assertEqual(high.turned(), wide)
            self.assertIn(size, (high, wide))
            self.assertGreaterEqual(compare(wide.width, wide.height), 0)

    def test_scaled_sizes(self):
        for step in STEPS:
            if not isinstance(step, Scaling):
                for size in sizes_for(step)[::3]:
                    for factor in (2, (1, 3), (FORTY, FORTY + 1)):
                        self.assertEqual(step.apply(size * factor), step.apply(size) * factor)


class CreationTest(ProgramTest):

    def test_scalings(self):
        for kind in SCALINGS:
            for width, height in BOXES:
                for step in (kind(width, height), kind(width=width, height=height), kind(height=height, width=width)):
                    self.assertEqual(vars(step), {"width": width, "height": height, "cover": False})
                    self.assertIs(step.cover, False)
                for cover in (True, False):
                    step = kind(width, height, cover=cover)
                    self.assertEqual([step.width, step.height], [width, height])
                    self.assertIs(step.cover, cover)

    def test_crops(self):
        for kind in CROPS:
            for width, height in BOXES + ((6, 4), (2, 2)):
                for step in (kind(width, height), kind(width=width, height=height), kind(keep="center", height=height,
                                                                                         width=width)):
                    self.assertEqual(vars(step), {"width": width, "height": height, "keep": "center"})
                for keep in KEEPS[kind]:
                    self.assertEqual(vars(kind(width, height, keep=keep)),
                                     {"width": width, "height": height, "keep": keep})

    def test_turns(self):
        self.assertEqual([vars(Turn()), vars(Turn(1)), vars(Turn(2)), vars(Turn(times=3))],
                         [{"times": 1}, {"times": 1}, {"times": 2}, {"times": 3}])
        self.assertEqual([vars(Landscape()), vars(Portrait())], [{}, {}])

    def test_cover_and_keep_by_name_only(self):
        for kind in SCALINGS:
            self.assertRaises(TypeError, kind, 4, 2, True)
        for kind in CROPS:
            self.assertRaises(TypeError, kind, 4, 2, "center")

    def test_words(self):
        for kind, word in WORDS.items():
            self.assertEqual(kind.WORD, word)
            self.assertEqual(vars(kind)["WORD"], word)
        for step in STEPS:
            self.assertEqual(step.WORD, str(step).split(" ")[0])
            self.assertEqual(step.WORD, WORDS[type(step)])

    def test_classes(self):
        self.assertEqual([Step.__bases__, Scaling.__bases__, Crop.__bases__], [(object,), (Step,), (Step,)])
        self.assertEqual([kind.__bases__[0] for kind in WORDS],
                         [Scaling, Scaling, Crop, Crop, Step, Step, Step])
        for kind in WORDS:
            self.assertIn("apply", vars(kind))
            self.assertEqual(len(kind.__bases__), 1)


class RefusalTest(ProgramTest):

    def test_boxes(self):
        for kind in SCALINGS + CROPS:
            for value in WRONG_SIDES:
                with self.subTest(kind=kind, value=value):
                    self.assert_refused(InvalidBox, value, kind, value, 2)
                    self.assert_refused(InvalidBox, value, kind, 4, value)
                    self.assert_refused(InvalidBox, value, kind, height=value, width=4)
                    self.assert_refused(InvalidBox, value, kind, height=2, width=value)
            self.assertEqual(kind(MOST, 1).width, MOST)

    def test_the_width_first(self):
        for kind in SCALINGS + CROPS:
            for width, height in ((0, -1), (-1, 0), (None, True), (MOST + 1, 0), ([4], "2"), (True, False)):
                self.assert_refused(InvalidBox, width, kind, width, height)
                self.assert_refused(InvalidBox, width, kind, height=height, width=width)

    def test_keeps(self):
        agreeable = Agreeable()
        values = ("", "Left", "center ", " center", "middle", "lef", "left right", None, True, 0, 1, b"center",
                  ("center",), ["center"], {"center": 1}, {"center"}, object(), Turn(), agreeable)
        for kind, other in ((CropWidth, CropHeight), (CropHeight, CropWidth)):
            for value in values + tuple(set(KEEPS[other]) - {"center"}):
                with self.subTest(kind=kind, value=value):
                    self.assert_refused(InvalidKeep, value, kind, 4, 2, keep=value)
                    self.assert_refused(InvalidBox, 0, kind, 0, 2, keep=value)
                    self.assert_refused(InvalidBox, True, kind, 4, True, keep=value)

    def test_times(self):
        for value in (None, True, False, 0, 4, -1, FORTY, "1", "", b"1", (1,), [1], {1: 1}, object(), Turn(),
                      Size(1, 1)):
            with self.subTest(value=value):
                self.assert_refused(InvalidTimes, value, Turn, value)
                self.assert_refused(InvalidTimes, value, Turn, times=value)
        self.assertEqual(Turn(3).times, 3)

    def test_refused_calls_leave_nothing_behind(self):
        step = Shrink(4, 2)
        self.assert_refused(InvalidBox, 0, Shrink, 0, 2)
        self.assert_refused(InvalidSize, None, step.apply, None)
        self.assertEqual([str(step), str(step.apply(Size(8, 6))), str(Shrink(4, 2))],
                         ["shrink 4x2", "8/3x2", "shrink 4x2"])
        passed = [3, 2]
        before = copy.deepcopy(passed)
        self.assert_refused(InvalidBox, passed, Grow, passed, 2)
        self.assert_refused(InvalidKeep, passed, CropWidth, 1, 1, keep=passed)
        self.assert_refused(InvalidTimes, passed, Turn, passed)
        self.assert_refused(InvalidText, passed, Step.read, passed)
        self.assertEqual(passed, before)


class TextTest(ProgramTest):

    def test_texts(self):
        for step, text in (
                (Shrink(4, 2), "shrink 4x2"), (Shrink(4, 2, cover=True), "shrink 4x2 cover"),
                (Grow(1, MOST), "grow 1x1000000"), (Grow(MOST, 1, cover=True), "grow 1000000x1 cover"),
                (CropWidth(16, 9), "width 16:9 center"), (CropWidth(2, 2, keep="left"), "width 2:2 left"),
                (CropWidth(1, 3, keep="right"), "width 1:3 right"), (CropHeight(16, 9), "height 16:9 center"),
                (CropHeight(2, 2, keep="top"), "height 2:2 top"),
                (CropHeight(1, 3, keep="bottom"), "height 1:3 bottom"),
                (Turn(), "turn 1"), (Turn(2), "turn 2"), (Turn(3), "turn 3"), (Landscape(), "landscape"),
                (Portrait(), "portrait")):
            self.assertEqual(str(step), text)
            self.assertEqual(f"{step}", text)
            self.assertEqual(repr(step), f"Step({text})")
            self.assertEqual(Step.read(text), step)

    def test_read_from_its_own_text(self):
        for step in STEPS:
            for found in (Step.read(str(step)), Step.read(text=str(step)), step.read(str(step)), Turn.read(str(step))):
                self.assertIs(type(found), type(step))
                self.assertEqual(vars(found), vars(step))
                self.assertEqual(found, step)
        self.assertIs(Step.read("shrink 4x2").cover, False)
        self.assertIs(Step.read("shrink 4x2 cover").cover, True)
        self.assertIsInstance(vars(Step)["read"], staticmethod)

    def test_texts_of_no_step(self):
        texts = [
            "", " ", "  ", ",", "x", "4x2", "4:2", "16:9 left", "left", "cover", "1", "turns 1", "crop 1:1 left",
            "shrink", "shrink ", "shrink 4", "shrink 4x", "shrink x2", "shrink x", "shrink 4x2x1", "shrink 4:2",
            "shrink 4X2", "shrink 4 x 2", "shrink 4x 2", "shrink 4,2", "shrink 4x2 fit", "shrink 4x2 Cover",
            "shrink 4x2 cover cover", "shrink 4x2 cover 1", "shrink cover 4x2", "shrink cover", "cover shrink 4x2",
            "shrink 4x2 center", "shrink4x2", "shrink 4x2cover", "grow", "grow 4", "grow 4x2 fit", "grow 4/2x2",
            "shrink 4/1x2", "shrink 1/2x2", "shrink 4.0x2", "shrink 4_0x2", "shrink 4x2_0", "shrink 4x-2",
            "shrink -4x2", "shrink +4x2", "shrink 4x+2", "shrink 04x2", "shrink 4x02", "shrink 0x2", "shrink 4x0",
            "shrink 00x2", "shrink 1000001x2", "shrink 4x1000001", "grow 1000001x1 cover", "grow 1x1000001",
            "grow 9999999x1", "grow 10000000x1", "grow 0000001x1", "shrink axb", "shrink 4x\u0662", "shrink \u0664x2",
            "shrink \u00b2x2",
            "width", "width 1:1", "width 1:1 ", "width 1x1 left", "width 1:1 top", "width 1:1 bottom",
            "width 1:1 middle", "width 1:1 Left", "width 1:1 left right", "width 1:1 left left", "width left 1:1",
            "width 0:1 left", "width 1:0 left", "width 01:1 left", "width 1:01 left", "width -1:1 left",
            "width 1000001:1 left", "width 1:1000001 left", "width 1 left", "width 1: left", "width :1 left",
            "width 1:1:1 left", "width : left", "width 1:1left", "width left", "width 1/1 left",
            "height", "height 1:1", "height 1:1 left", "height 1:1 right", "height 1x1 top", "height 0:1 top",
            "height 1:0 top", "height 1:1 Top", "height 1:1 cover", "height 1:1 top cover", "height 1000001:1 top",
            "turn", "turn ", "turn 0", "turn 4", "turn 5", "turn 01", "turn 11", "turn -1", "turn +1", "turn 1 1",
            "turn 1/1", "turn one", "turn 1.0", "turn1", "turn x", "turn \u0661", "turn \u00b9",
            "landscape 1", "portrait 1", "landscape portrait", "landscapes", "portraits", "landscape landscape",
            "turn 1, turn 1", "turn 1,", "landscape,", "Step(turn 1)", "shrink 4x2, turn 1", "step",
            "9" * 2000, "shrink " + "9" * 1993, "shrink " + "9" * 1000 + "x1", "turn " + "1" * 1995,
            "width " + "1" * 1000 + ":1 left", "shrink " + "0" * 1000 + "4x2", " " * 2000,
        ]
        for step in STEPS:
            text = str(step)
            texts += [text + " ", " " + text, text.upper(), text.title(), text + "\n", text[1:], text + "x",
                      text + " x", text + ",", f"Step({text})"]
            if " " in text:
                texts += [text.replace(" ", "  "), text.replace(" ", ""), text.replace(" ", "_")]
            if not isinstance(step, Scaling):
                # Of the text of a scaling, without its last digit, another scaling may be left.
                texts.append(text[:-1])
        for text in texts:
            with self.subTest(text=text):
                self.assert_refused(InvalidText, text, Step.read, text)
                self.assert_refused(InvalidText, text, Step.read, text=text)

    def test_values_that_are_no_texts(self):
        for value in NO_STEPS + tuple(STEPS[-5:]):
            if not isinstance(value, str):
                with self.subTest(value=value):
                    self.assert_refused(InvalidText, value, Step.read, value)
        self.assertEqual(Step.read("turn 1"), Turn())


class EqualityTest(ProgramTest):

    def test_steps(self):
        others = all_steps()
        for index, step in enumerate(STEPS):
            for place, other in enumerate(others):
                self.assertIs(step == other, index == place)
                self.assertIs(step != other, index != place)

    def test_one_attribute_differs(self):
        for one, other in (
                (Shrink(4, 2), Grow(4, 2)), (Shrink(4, 2), Shrink(4, 3)), (Shrink(4, 2), Shrink(5, 2)),
                (Shrink(4, 2), Shrink(2, 4)), (Shrink(4, 2), Shrink(4, 2, cover=True)), (Shrink(4, 2), Shrink(8, 4)),
                (CropWidth(2, 2), CropWidth(1, 1)), (CropWidth(1, 1), CropHeight(1, 1)),
                (CropWidth(1, 1), CropWidth(1, 1, keep="left")), (CropWidth(4, 2), Shrink(4, 2)),
                (Turn(1), Turn(3)), (Landscape(), Portrait()), (Turn(), Landscape())):
            self.assertIs(one == other or other == one, False)
            self.assertIs(one != other and other != one, True)

    def test_values_of_other_classes(self):
        for step in STEPS[::5] + STEPS[-5:] + [Shrink(4, 2), Turn()]:
            for value in NO_STEPS:
                self.assertIs(step == value or value == step, False)
                self.assertIs(step != value and value != step, True)
            self.assertIs(step == Agreeable(), False)
            self.assertIs(step != Agreeable(), True)

    def test_no_step_is_a_size_or_in_one(self):
        for step in STEPS:
            self.assertIs(Size(4, 2) == step or step == Size(4, 2), False)
            self.assertIs(Size(4, 2) != step and step != Size(4, 2), True)
            self.assertIs(step in Size(MOST, MOST), False)
        for error in (InvalidSize(1), InvalidBox(1)):
            self.assertIs(error == Size(4, 2) or Size(4, 2) == error or error in Size(4, 2), False)


if __name__ == "__main__":
    unittest.main()
