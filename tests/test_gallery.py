"""Galleries (promises 1 to 6 and 10 of stage 4)."""

import random
import unittest

from sizechains.chains import Chain
from sizechains.errors import (
    InvalidChain, InvalidDeeds, InvalidName, InvalidSize, InvalidTimes, NameTaken, NothingToUndo, TooManyDeeds,
    UnknownName)
from sizechains.gallery import Gallery
from sizechains.limits import MOST_DEEDS
from sizechains.sizes import Size
from sizechains.steps import Shrink
from tests.helper import FORTY, LONG, NO_SIZES, ProgramTest
from tests.model import chain_result, random_chain, random_size
from tests.test_chains import NO_CHAINS
from tests.test_steps import Agreeable

BOX, QUARTER = Chain.read("landscape, shrink 100x50"), Chain.read("turn 1")
SEA, HILL = Size(800, 600), Size(300, 400)
NAMES = (
    "a", "z", "sea", "hill", "abcdefgh", "zzzzzzzz", "gallery", "names", "add", "to", "selfs", "sel", "elf", "size",
)
NO_NAMES = (
    "", "self", "abcdefghi", "Sea", "SEA", "sEa", "sea1", "1", "sea ", " sea", "se a", " ", "-", "_", "se_a", "__eq__",
    "a-b", "a.b", "a/b", "a" * 2000, "~", "'sea'",
)
NO_STRINGS = (
    None, True, False, 0, 1, FORTY, b"sea", ("sea",), ["sea"], ("s", "e", "a"), {"sea"}, {"sea": SEA}, {}, [], (),
    object(), SEA, BOX, Gallery, Agreeable(), InvalidName("sea"),
)


def new_gallery():
    return Gallery(sea=SEA, hill=HILL)


def state_of(gallery):
    """Return what can be seen of a gallery."""
    return ([(name, str(gallery.size_of(name))) for name in gallery.names], gallery.log, gallery.busy)


class GalleryTest(ProgramTest):

    def assert_pictures(self, gallery, **pictures):
        """The gallery has these pictures, the sizes given by their texts."""
        self.assertEqual(gallery.names, tuple(sorted(pictures)))
        self.assertEqual({name: str(gallery.size_of(name)) for name in gallery.names}, pictures)

    def assert_unchanged(self, gallery, error_class, value, call, *args, **named):
        """The call is refused and changes nothing."""
        before = state_of(gallery)
        self.assert_refused(error_class, value, call, *args, **named)
        self.assertEqual(state_of(gallery), before)

    def full_gallery(self, count=MOST_DEEDS):
        gallery = new_gallery()
        for _ in range(count):
            self.assertIsNone(gallery.change(QUARTER))
        self.assertEqual(len(gallery.log), count)
        return gallery


class CreationTest(GalleryTest):

    def test_pictures(self):
        gallery = new_gallery()
        self.assert_pictures(gallery, sea="800x600", hill="300x400")
        self.assertIs(gallery.size_of("sea"), SEA)
        self.assertEqual([gallery.names, gallery.log, gallery.busy], [("hill", "sea"), (), False])
        self.assertEqual([len(gallery), bool(gallery), repr(gallery)], [2, True, "Gallery(2)"])
        self.assertIn("busy", vars(gallery))
        for name in ("names", "log"):
            self.assertIsInstance(vars(Gallery)[name], property)

    def test_no_pictures(self):
        gallery = Gallery()
        self.assertEqual([gallery.names, gallery.log, gallery.busy, gallery.listing()], [(), (), False, ""])
        self.assertEqual([len(gallery), bool(gallery), repr(gallery)], [0, False, "Gallery(0)"])
        self.assertEqual(list(gallery.fitting(SEA)), [])

    def test_names(self):
        gallery = Gallery(**{name: SEA for name in NAMES})
        self.assertEqual(gallery.names, tuple(sorted(NAMES)))
        self.assertEqual(len(gallery), len(NAMES))
        for name in NAMES:
            self.assertIn(name, gallery)

    def test_refused_names(self):
        for name in NO_NAMES:
            if name != "self":
                self.assert_refused(InvalidName, name, Gallery, **{name: SEA})
                self.assert_refused(InvalidName, name, Gallery, **{name: None})
        self.assertEqual(Gallery(sea=SEA).names, ("sea",))

    def test_refused_sizes(self):
        for value in NO_SIZES:
            self.assert_refused(InvalidSize, value, Gallery, sea=value)
            self.assert_refused(InvalidSize, value, Gallery, sea=SEA, hill=value)

    def test_in_ascending_order_of_the_names(self):
        self.assert_refused(InvalidName, "B1", Gallery, c=None, B1=SEA, a=SEA)
        self.assert_refused(InvalidName, "B1", Gallery, **{"a": 1, "B1": 2})
        self.assert_refused(InvalidSize, 1, Gallery, **{"b1": 2, "a": 1})
        self.assert_refused(InvalidName, "b1", Gallery, **{"b1": 2, "a": SEA, "c": 3})
        self.assert_refused(InvalidName, "A", Gallery, **{"a": 1, "A": 2})
        self.assert_refused(InvalidSize, 7, Gallery, **{"zz": 8, "za": 7, "b": SEA})

    def test_the_order_of_the_pictures_means_nothing(self):
        one, other = Gallery(sea=SEA, hill=HILL), Gallery(hill=HILL, sea=SEA)
        self.assertEqual([one.names, one.listing(), one == other], [other.names, other.listing(), True])

    def test_what_is_passed_is_not_changed(self):
        pictures = {"sea": SEA, "hill": HILL}
        gallery = Gallery(**pictures)
        gallery.remove("sea")
        gallery.add("lake", SEA)
        gallery.change(QUARTER)
        self.assertEqual([list(pictures), str(SEA), str(HILL)], [["sea", "hill"], "800x600", "300x400"])

    def test_the_methods_stand_in_the_class(self):
        self.assertEqual(Gallery.__bases__, (object,))
        for name in ("__init__", "names", "log", "add", "remove", "change", "do_all", "undo", "size_of", "fitting",
                     "listing", "__contains__", "__len__", "__eq__", "__repr__"):
            self.assertIn(name, vars(Gallery))


class DeedTest(GalleryTest):

    def test_add(self):
        gallery = Gallery()
        for name in NAMES:
            self.assertIsNone(gallery.add(name, HILL))
        self.assertEqual(gallery.names, tuple(sorted(NAMES)))
        self.assertEqual(gallery.log, tuple([("add", name, HILL) for name in NAMES]))
        self.assertIsNone(gallery.add(size=SEA, name="other"))
        self.assertIs(gallery.log[-1][2], SEA)
        self.assertIs(gallery.size_of("other"), SEA)

    def test_add_refused(self):
        gallery = new_gallery()
        for name in NO_NAMES + NO_STRINGS:
            self.assert_unchanged(gallery, InvalidName, name, gallery.add, name, SEA)
            self.assert_unchanged(gallery, InvalidName, name, gallery.add, name, None)
            self.assert_unchanged(gallery, InvalidName, name, gallery.add, size=0, name=name)
        for size in NO_SIZES + (SEA,):
            self.assert_unchanged(gallery, NameTaken, "sea", gallery.add, "sea", size)
        for size in NO_SIZES:
            self.assert_unchanged(gallery, InvalidSize, size, gallery.add, "lake", size)
        gallery.add("lake", HILL)
        self.assertEqual(gallery.log, (("add", "lake", HILL),))

    def test_remove(self):
        gallery = new_gallery()
        self.assertIsNone(gallery.remove("sea"))
        self.assert_pictures(gallery, hill="300x400")
        self.assertIsNone(gallery.remove(name="hill"))
        self.assert_pictures(gallery)
        self.assertEqual(gallery.log, (("remove", "sea"), ("remove", "hill")))
        self.assertIsNone(gallery.add("sea", HILL))
        self.assert_pictures(gallery, sea="300x400")

    def test_unknown_names(self):
        gallery = new_gallery()
        for value in NO_NAMES + NO_STRINGS + ("lake", "se", "seas"):
            self.assert_unchanged(gallery, UnknownName, value, gallery.remove, value)
            self.assert_unchanged(gallery, UnknownName, value, gallery.size_of, value)
            self.assert_unchanged(gallery, UnknownName, value, gallery.size_of, name=value)
            self.assert_unchanged(gallery, UnknownName, value, gallery.change, QUARTER, value)
            self.assert_unchanged(gallery, UnknownName, value, gallery.change, QUARTER, "sea", value, None)
            self.assertNotIn(value, gallery)
        self.assert_unchanged(Gallery(), UnknownName, "sea", Gallery().remove, "sea")

    def test_change(self):
        gallery = new_gallery()
        self.assertIsNone(gallery.change(BOX))
        self.assert_pictures(gallery, sea="200/3x50", hill="200/3x50")
        self.assertIsNone(gallery.change(QUARTER, "sea"))
        self.assert_pictures(gallery, sea="50x200/3", hill="200/3x50")
        self.assertIsNone(gallery.change(QUARTER, "hill", "sea", "hill", "hill"))
        self.assert_pictures(gallery, sea="200/3x50", hill="50x200/3")
        self.assertIsNone(gallery.change(Chain(), "hill"))
        self.assertEqual(gallery.log, (
            ("change", BOX, ()), ("change", QUARTER, ("sea",)), ("change", QUARTER, ("hill", "sea", "hill", "hill")),
            ("change", Chain(), ("hill",))))
        self.assertIs(gallery.log[0][1], BOX)

    def test_change_of_no_pictures(self):
        gallery = Gallery()
        self.assertIsNone(gallery.change(BOX))
        self.assertEqual([gallery.log, len(gallery)], [(("change", BOX, ()),), 0])

    def test_change_refused(self):
        gallery = new_gallery()
        for value in NO_CHAINS:
            self.assert_unchanged(gallery, InvalidChain, value, gallery.change, value)
            self.assert_unchanged(gallery, InvalidChain, value, gallery.change, value, "sea")
            self.assert_unchanged(gallery, InvalidChain, value, gallery.change, value, "lake", None)
        self.assert_unchanged(gallery, UnknownName, "lake", gallery.change, QUARTER, "sea", "lake", "pond")
        self.assert_unchanged(gallery, UnknownName, "pond", gallery.change, QUARTER, "pond", "lake", "sea")
        gallery.change(QUARTER, "sea")
        self.assert_pictures(gallery, sea="600x800", hill="300x400")

    def test_too_many_deeds(self):
        gallery = self.full_gallery()
        for call, args in ((gallery.add, ("lake", SEA)), (gallery.remove, ("sea",)), (gallery.change, (QUARTER,)),
                           (gallery.change, (Chain(), "sea")), (gallery.do_all, (("remove", "sea"),))):
            before = state_of(gallery)
            self.assert_told(TooManyDeeds, "count", 400, call, *args)
            self.assertEqual(state_of(gallery), before)
        # All other errors come first.
        for error_class, value, call, args in (
                (InvalidName, "Sea", gallery.add, ("Sea", SEA)), (NameTaken, "sea", gallery.add, ("sea", SEA)),
                (InvalidSize, None, gallery.add, ("lake", None)), (UnknownName, "lake", gallery.remove, ("lake",)),
                (InvalidChain, None, gallery.change, (None,)),
                (UnknownName, "lake", gallery.change, (BOX, "sea", "lake")),
                (UnknownName, "lake", gallery.do_all, (("remove", "lake"),))):
            self.assert_unchanged(gallery, error_class, value, call, *args)
        self.assertIsNone(gallery.do_all())
        gallery.undo()
        self.assertIsNone(gallery.remove("sea"))
        self.assert_told(TooManyDeeds, "count", 400, gallery.remove, "hill")

    def test_the_last_deed_that_is_allowed(self):
        gallery = self.full_gallery(399)
        gallery.add("lake", SEA)
        self.assertEqual(len(gallery.log), 400)
        self.assert_told(TooManyDeeds, "count", 400, gallery.remove, "lake")
        self.assertIn("lake", gallery)


NO_DEEDS = (
    None, True, 0, "add", "remove", "undo", b"add", [], ["remove", "sea"], {}, set(), object(), QUARTER, SEA,
    Agreeable(), (), ("add",), ("add", "lake"), ("add", "lake", SEA, SEA), ("remove",), ("remove", "sea", "sea"),
    ("change",), ("change", BOX), ("change", BOX, "sea"), ("change", BOX, ["sea"]), ("change", BOX, None),
    ("change", BOX, ("sea",), ()), ("change", BOX, "sea", "hill"), ("undo",), ("undo", 1), ("Add", "lake", SEA),
    ("rename", "sea", "lake"), ("add ", "lake", SEA), (b"add", "lake", SEA), (None, "lake", SEA), (True, "sea"),
    (["add"], "lake", SEA), (("add", "lake", SEA),), (Agreeable(), "lake", SEA), (Agreeable(), "sea"), ({}, "sea"),
)


class DoAllTest(GalleryTest):

    def test_all_deeds(self):
        gallery, other = new_gallery(), new_gallery()
        deeds = (("add", "lake", Size(9, 2)), ("change", BOX, ()), ("remove", "sea"),
                 ("change", QUARTER, ("hill", "lake", "hill")), ("add", "sea", SEA), ("change", Chain(), ("sea",)))
        self.assertIsNone(gallery.do_all(*deeds))
        self.assertEqual(gallery.log, deeds)
        other.add("lake", Size(9, 2))
        other.change(BOX)
        other.remove("sea")
        other.change(QUARTER, "hill", "lake", "hill")
        other.add("sea", SEA)
        other.change(Chain(), "sea")
        self.assertEqual([gallery == other, gallery.log == other.log, gallery.busy], [True, True, False])
        gallery.undo(times=6)
        self.assertEqual(gallery, new_gallery())

    def test_no_deeds(self):
        gallery = new_gallery()
        self.assertIsNone(gallery.do_all())
        self.assertIsNone(gallery.do_all(watch=None))
        self.assertIsNone(gallery.do_all(watch=lambda gallery, index: 1 // 0))
        self.assertEqual(state_of(gallery), state_of(new_gallery()))

    def test_refused_forms(self):
        gallery = new_gallery()
        good = ("change", QUARTER, ())
        for value in NO_DEEDS + ((good,), gallery):
            for index in (0, 1, 2):
                deeds = [good, good, good]
                deeds[index] = value
                before = state_of(gallery)
                self.assert_told(InvalidDeeds, "index", index, gallery.do_all, *deeds)
                self.assert_told(InvalidDeeds, "index", index, gallery.do_all, *deeds, value, watch=self.fail)
                self.assertEqual(state_of(gallery), before)
        # Before anything is done, though the first deed is none that could be done.
        self.assert_told(InvalidDeeds, "index", 1, gallery.do_all, ("remove", "lake"), None)
        gallery.do_all(good)
        self.assertEqual(gallery.log, (good,))

    def test_the_first_deed_that_is_refused(self):
        for error_class, value, deeds in (
                (UnknownName, "sea", (("remove", "sea"), ("remove", "sea"))),
                (NameTaken, "lake", (("add", "lake", SEA), ("add", "lake", None))),
                (InvalidName, "Lake", (("change", BOX, ()), ("add", "Lake", None), ("remove", "pond"))),
                (InvalidSize, "8x6", (("change", BOX, ()), ("add", "lake", "8x6"))),
                (InvalidChain, "turn 1", (("change", "turn 1", ("lake",)), ("remove", "lake"))),
                (UnknownName, "lake", (("change", BOX, ("sea", "lake", "pond")), ("remove", "pond"))),
                (UnknownName, None, (("change", BOX, ("sea", None)),)),
                (UnknownName, "hill", (("remove", "hill"), ("change", BOX, ("hill",)))),
                (UnknownName, None, (("remove", None),)),
                (NameTaken, "sea", (("add", "sea", SEA), ("remove", "sea")))):
            gallery = new_gallery()
            gallery.change(QUARTER)
            self.assert_unchanged(gallery, error_class, value, gallery.do_all, *deeds)
            self.assertIs(gallery.busy, False)
        # These two are taken by deeds before them.
        gallery.do_all(("remove", "sea"), ("add", "sea", HILL))
        self.assert_pictures(gallery, sea="300x400", hill="400x300")

    def test_too_many_deeds_midway(self):
        gallery = self.full_gallery(397)
        deeds = [("change", QUARTER, ("sea",))] * 4
        before = state_of(gallery)
        told = []
        self.assert_told(
            TooManyDeeds, "count", 400, gallery.do_all, *deeds, watch=lambda gallery, index: told.append(index))
        self.assertEqual([state_of(gallery), told], [before, [0, 1, 2]])
        self.assert_told(UnknownName, "value", "lake", gallery.do_all, *deeds[:3], ("remove", "lake"))
        self.assertEqual(state_of(gallery), before)
        gallery.do_all(*deeds[:3])
        self.assertEqual(len(gallery.log), 400)

    def test_watch(self):
        gallery = new_gallery()
        told = []

        def watch(watched, index):
            self.assertIs(watched, gallery)
            self.assertIs(type(index), int)
            told.append((index, watched.busy, watched.names, len(watched.log), str(watched.size_of("hill"))))
            return True

        gallery.do_all(("remove", "sea"), ("change", QUARTER, ()), ("add", "lake", SEA), watch=watch)
        self.assertEqual(told, [(0, True, ("hill",), 1, "300x400"), (1, True, ("hill",), 2, "400x300"),
                                (2, True, ("hill", "lake"), 3, "400x300")])
        self.assertIs(gallery.busy, False)

    def test_watch_that_raises(self):
        class Own(BaseException):
            pass

        deeds = (("remove", "sea"), ("change", BOX, ()), ("add", "lake", SEA))
        errors = (ValueError("x"), KeyError("x"), IndexError(), ZeroDivisionError(), StopIteration(), RuntimeError(),
                  Own(), KeyboardInterrupt(), UnknownName("x"), InvalidDeeds(7), TooManyDeeds(400), GeneratorExit())
        for error in errors:
            for place in (0, 1, 2):
                gallery = new_gallery()
                gallery.change(QUARTER, "sea")
                before = state_of(gallery)

                def watch(watched, index):
                    self.assertIs(watched.busy, True)
                    if index == place:
                        raise error

                with self.assertRaises(type(error)) as caught:
                    gallery.do_all(*deeds, watch=watch)
                self.assertIs(caught.exception, error)
                self.assertEqual(state_of(gallery), before)
                gallery.do_all(*deeds)
                self.assertEqual(len(gallery.log), 4)
                gallery.undo(times=4)
                self.assertEqual(gallery, new_gallery())

    def test_watch_that_is_refused_something(self):
        gallery = new_gallery()
        busy = []

        def watch(watched, index):
            self.assert_refused(UnknownName, "lake", watched.do_all, ("remove", "lake"))
            self.assert_told(InvalidDeeds, "index", 0, watched.do_all, None)
            self.assert_refused(NameTaken, "hill", watched.add, "hill", SEA)
            watched.do_all()
            busy.append((watched.busy, len(watched.log)))

        gallery.do_all(("remove", "sea"), ("change", QUARTER, ()), watch=watch)
        self.assertEqual([busy, gallery.busy], [[(True, 1), (True, 2)], False])

    def test_busy_by_one_deed_alone(self):
        gallery = new_gallery()
        for deed in (lambda: gallery.add("lake", SEA), lambda: gallery.remove("lake"), lambda: gallery.change(BOX),
                     lambda: gallery.undo()):
            deed()
            self.assertIs(gallery.busy, False)

    def test_a_watch_of_another_kind(self):
        told = []

        class Watch:
            def __call__(self, gallery, index):
                told.append(index)

        gallery = new_gallery()
        gallery.do_all(("remove", "sea"), watch=Watch())
        gallery.do_all(("remove", "hill"), watch=lambda *told_values: told.append(len(told_values)))
        self.assertEqual([told, len(gallery)], [[0, 2], 0])


class UndoTest(GalleryTest):

    def test_one_and_several(self):
        gallery = new_gallery()
        states = [state_of(gallery)]
        for deed in (
                ("add", "lake", SEA), ("change", BOX, ()), ("remove", "sea"), ("change", QUARTER, ("hill", "lake")),
                ("remove", "lake"), ("add", "sea", HILL), ("change", QUARTER, ("sea", "sea"))):
            gallery.do_all(deed)
            states.append(state_of(gallery))
        for times in (1, 2, 3, 7):
            gallery.do_all(*[state[1][-1] for state in states[1 + len(gallery.log):]])
            self.assertEqual(state_of(gallery), states[7])
            self.assertIsNone(gallery.undo(times=times))
            self.assertEqual(state_of(gallery), states[7 - times])
        gallery.do_all(*states[7][1])
        for left in range(6, -1, -1):
            self.assertIsNone(gallery.undo())
            self.assertEqual(state_of(gallery), states[left])
        self.assertEqual(gallery, new_gallery())

    def test_nothing_to_undo(self):
        gallery = new_gallery()
        for count in range(4):
            for times in (count + 1, count + 2, 400, FORTY):
                before = state_of(gallery)
                with self.assertRaises(NothingToUndo) as caught:
                    gallery.undo(times=times)
                self.assertIs(type(caught.exception), NothingToUndo)
                self.assertEqual(vars(caught.exception), {})
                self.assertEqual(state_of(gallery), before)
            gallery.change(QUARTER)
        gallery.undo(times=4)
        self.assertRaises(NothingToUndo, gallery.undo)
        self.assertEqual(state_of(gallery), state_of(new_gallery()))

    def test_refused_times(self):
        gallery = new_gallery()
        gallery.change(QUARTER)
        for value in (None, True, False, 0, -1, -FORTY, "1", b"1", (), (1,), [1], {}, (1, 1), object(), int, SEA):
            self.assert_unchanged(gallery, InvalidTimes, value, gallery.undo, times=value)
        self.assertRaises(TypeError, gallery.undo, 1)
        gallery.undo(times=1)
        self.assertEqual(gallery.log, ())
        self.assert_unchanged(gallery, InvalidTimes, 0, gallery.undo, times=0)

    def test_all_of_four_hundred(self):
        gallery = self.full_gallery()
        self.assertRaises(NothingToUndo, lambda: gallery.undo(times=401))
        gallery.undo(times=400)
        self.assertEqual(state_of(gallery), state_of(new_gallery()))
        gallery.do_all(*[("change", QUARTER, ())] * 400)
        self.assertEqual(len(gallery.log), 400)

    def test_a_deed_of_several(self):
        gallery = new_gallery()
        gallery.do_all(("remove", "sea"), ("add", "sea", HILL), ("change", QUARTER, ()))
        gallery.undo()
        self.assert_pictures(gallery, sea="300x400", hill="300x400")
        gallery.undo()
        self.assert_pictures(gallery, hill="300x400")
        self.assertEqual(gallery.log, (("remove", "sea"),))


class LookTest(GalleryTest):

    def test_size_of(self):
        gallery = new_gallery()
        self.assertEqual([gallery.size_of("sea"), gallery.size_of(name="hill")], [SEA, HILL])

    def test_fitting(self):
        gallery = Gallery(sea=SEA, hill=HILL, dot=Size((1, 2), (1, 3)), line=Size(1000, 1), wall=Size(1, 1000))
        for text, names in (
                ("800x600", ["dot", "hill", "sea"]), ("799x600", ["dot", "hill"]), ("1000x1000", list(gallery.names)),
                ("1000x1", ["dot", "line"]), ("1/2x1/3", ["dot"]), ("1/3x1/2", []), ("300x400", ["dot", "hill"]),
                ("1000x999", ["dot", "hill", "line", "sea"])):
            self.assertEqual(list(gallery.fitting(Size.read(text))), names)
            self.assertEqual(list(gallery.fitting(size=Size.read(text))), names)
        self.assertNotIsInstance(gallery.fitting(SEA), (list, tuple))

    def test_fitting_refused_when_iteration_begins(self):
        gallery = new_gallery()
        for value in NO_SIZES:
            self.assert_refused(InvalidSize, value, lambda: list(gallery.fitting(value)))
            self.assert_refused(InvalidSize, value, lambda: list(Gallery().fitting(size=value)))

    def test_listing(self):
        for pictures, lines in (
                ({}, []),
                ({"sea": Size(50, (200, 3))}, ["sea                50        200/3"]),
                ({"abcdefgh": Size(123456789012, (1, 10 ** 9))}, ["abcdefgh 123456789012 1/1000000000"]),
                ({"b": Size(1, 1), "a": Size(2, 3)},
                 ["a                   2            3", "b                   1            1"]),
                ({"a": Size(1234567890123, (12345678, 12345679))}, ["a        1234567890123 12345678/12345679"]),
                ({"a": Size(FORTY, 1)}, [f"a        {FORTY}            1"])):
            gallery = Gallery(**pictures)
            self.assertEqual(gallery.listing(), "\n".join(lines))

    def test_in(self):
        gallery = new_gallery()
        found = [name in gallery for name in ("sea", "hill", "lake", "se", "Sea", "")]
        self.assertEqual(found, [True, True, False, False, False, False])
        for value in NO_STRINGS:
            self.assertIs(value in gallery, False)

    def test_equal(self):
        gallery = new_gallery()
        for other in (new_gallery(), Gallery(hill=HILL, sea=Size((800, 1), 600))):
            self.assertIs(gallery == other, True)
            self.assertIs(gallery != other, False)
        for other in (Gallery(), Gallery(sea=SEA), Gallery(sea=SEA, hill=SEA), Gallery(sea=SEA, hills=HILL),
                      Gallery(sea=SEA, hill=HILL, lake=HILL), Gallery(sea=HILL, hill=SEA), None, 2, "Gallery(2)", (),
                      {}, {"sea": SEA, "hill": HILL}, object(), Gallery):
            self.assertIs(gallery == other, False)
            self.assertIs(gallery != other, True)
        # The log does not matter.
        other = Gallery(sea=SEA)
        other.add("hill", HILL)
        self.assertEqual(gallery, other)
        other.change(QUARTER, "hill")
        self.assertNotEqual(gallery, other)
        other.change(QUARTER, "hill")
        self.assertEqual(gallery, other)
        self.assertEqual(Gallery(), Gallery())

    def test_length_and_truth(self):
        gallery = Gallery()
        for count, name in enumerate(NAMES):
            self.assertEqual([len(gallery), bool(gallery), repr(gallery)], [count, count > 0, f"Gallery({count})"])
            gallery.add(name, SEA)

    def test_great_numbers(self):
        gallery = Gallery(sea=Size(LONG, (1, LONG)))
        gallery.change(QUARTER)
        self.assertEqual(gallery.size_of("sea"), Size((1, LONG), LONG))
        self.assertEqual(gallery.listing(), f"sea      1/{LONG} {LONG}")


class SeveralCallsTest(GalleryTest):

    def random_deed(self, chance, gallery):
        names = [name for name in NAMES if chance.random() < 0.4]
        word = chance.choice(("add", "add", "remove", "change", "change", "change"))
        if word == "add":
            return word, chance.choice(NAMES), random_size(chance, 9)
        if word == "remove":
            return word, chance.choice(NAMES)
        return word, random_chain(chance, 9, chance.randint(0, 4)), tuple(name for name in names if name in gallery)

    def do(self, gallery, pictures, deed):
        """Do the deed by its method, and to a dict; return whether it was done."""
        word, *values = deed
        done = word == "change" or (values[0] in pictures) == (word == "remove")
        if word == "change":
            call = (gallery.change, (values[0], *values[1]))
            changed = {name: chain_result(str(values[0]), pictures[name]) for name in values[1] or pictures}
        else:
            call = (gallery.add if word == "add" else gallery.remove, values)
            changed = {}
        if not done:
            self.assert_unchanged(gallery, NameTaken if word == "add" else UnknownName, values[0], call[0], *call[1])
            return False
        call[0](*call[1])
        pictures.update(changed)
        if word == "add":
            pictures[values[0]] = values[1]
        if word == "remove":
            del pictures[values[0]]
        return True

    def test_as_a_dict(self):
        chance = random.Random(41)
        for _ in range(40):
            gallery, pictures, deeds, states = Gallery(sea=SEA), {"sea": SEA}, [], [{"sea": SEA}]
            for _ in range(25):
                deed = self.random_deed(chance, gallery)
                if self.do(gallery, pictures, deed):
                    deeds.append(deed)
                    states.append(dict(pictures))
                if deeds and chance.random() < 0.2:
                    times = chance.randint(1, len(deeds))
                    gallery.undo(times=times)
                    del deeds[-times:], states[-times:]
                    pictures = dict(states[-1])
                self.assertEqual(gallery.log, tuple(deeds))
                self.assertEqual(gallery, Gallery(**pictures))
            # The deeds of the log lead there again, and back.
            again = Gallery(sea=SEA)
            again.do_all(*gallery.log)
            self.assertEqual([again, again.log], [gallery, gallery.log])
            third = Gallery(sea=SEA)
            for deed in gallery.log:
                third.do_all(deed)
            self.assertEqual([third, third.log], [gallery, gallery.log])
            if deeds:
                again.undo(times=len(deeds))
                self.assertEqual(again, Gallery(sea=SEA))

    def test_a_chain_whole_and_in_parts(self):
        chance = random.Random(42)
        for _ in range(60):
            chain, other = random_chain(chance, 9, chance.randint(0, 5)), random_chain(chance, 9, chance.randint(0, 5))
            whole, parts = new_gallery(), new_gallery()
            names = chance.choice(((), ("sea",), ("hill", "sea", "hill")))
            whole.change(chain + other, *names)
            parts.change(chain, *names)
            parts.change(other, *names)
            self.assertEqual(whole, parts)
            self.assertEqual([len(whole.log), len(parts.log)], [1, 2])

    def test_two_galleries_do_not_touch_each_other(self):
        one, other = new_gallery(), new_gallery()
        one.remove("sea")
        self.assertEqual(state_of(other), state_of(new_gallery()))
        other.do_all(("change", QUARTER, ()), ("add", "lake", SEA), watch=lambda gallery, index: one.change(Chain()))
        self.assert_pictures(one, hill="300x400")
        self.assert_pictures(other, sea="600x800", hill="400x300", lake="800x600")
        self.assertEqual([len(one.log), len(other.log), one.busy, other.busy], [3, 2, False, False])
        one.undo(times=3)
        self.assertEqual([one == new_gallery(), len(other.log)], [True, 2])

    def test_what_was_given_out_stays(self):
        gallery = new_gallery()
        gallery.change(Chain(Shrink(4, 2)), "sea")
        names, log = gallery.names, gallery.log
        gallery.do_all(("remove", "sea"), ("change", BOX, ()))
        self.assertEqual([names, len(log)], [("hill", "sea"), 1])
        gallery.undo(times=3)
        self.assertEqual(repr(log), "(('change', Chain(1), ('sea',)),)")


if __name__ == "__main__":
    unittest.main()
