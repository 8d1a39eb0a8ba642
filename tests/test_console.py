"""The console (promises 7 and 10 of stage 4)."""

import random
import unittest

from sizechains.chains import Chain
from sizechains.comparing import difference, same_effect
from sizechains.console import Console
from sizechains.errors import (
    InvalidLine, InvalidName, NameTaken, NothingToUndo, TooManyDeeds, UnknownName)
from sizechains.gallery import Gallery
from sizechains.sizes import Size
from tests.helper import FORTY, ProgramTest
from tests.model import random_chain, random_size
from tests.test_comparing import DIFFERENT, SAME
from tests.test_gallery import NAMES, state_of

LONGEST = ", ".join(["turn 1"] * 60)
TOO_LONG = ", ".join(["turn 1"] * 61)

NO_LINES = (
    "", " ", "  ", "-", "help", "exit", "Add sea 8x6", "ADD sea 8x6", "ok", "sea", "8x6", "turn 1", "list", "/", "to",
    # Too few words and too many.
    "add", "add sea", "add 8x6", "add sea 8x6 8x6", "add sea lake 8x6", "add sea 8 x 6", "remove", "remove sea lake",
    "undo 1", "undo undo", "undo sea", "size", "size sea lake", "names sea", "names -", "same", "difference", "apply",
    # Spaces.
    " names", "names ", " names ", "add  sea 8x6", "add sea  8x6", " add sea 8x6", "add sea 8x6 ", "remove  sea",
    "remove sea ", " undo", "undo ", "size  sea", "size sea ", "apply  turn 1", "apply turn 1 ", "apply turn  1",
    "apply turn 1,  turn 1", "apply turn 1  to sea", "apply turn 1 to  sea", "apply turn 1 to sea ", "apply ",
    "same turn 1  / turn 1", "same turn 1 /  turn 1", "same turn 1 / turn 1 ", "add sea\t8x6", "names\n",
    # No texts of sizes.
    "add lake 8", "add lake 8x", "add lake x6", "add lake 8/2x6", "add lake 08x6", "add lake 0x6", "add lake -8x6",
    "add lake 8X6", "add lake 8x6x4", "add lake turn", "add 8x6 lake", "add Lake 8", "add sea 0x1", "add self x",
    # No texts of chains, or of chains without steps.
    "apply turn", "apply turn 4", "apply turn 1,", "apply turn 1,turn 1", "apply , turn 1", "apply shrink 4x2 left",
    "apply sea", "apply to sea", "apply to", "apply to to", "apply to to to", "apply turn 1 to", "apply turn 1 sea",
    "apply turn 1 to sea lake", "apply turn 1 to sea, turn 1", "apply turn 1, to sea", "apply turn 1 TO sea",
    "apply turn 1 to to to", "apply turn 1 / turn 1", f"apply {TOO_LONG}", f"apply {TOO_LONG} to sea",
    "same turn 1", "same turn 1 /", "same / turn 1", "same /", "same / /", "same turn 1 turn 1", "same turn 1/turn 1",
    "same turn 1 /turn 1", "same turn 1/ turn 1", "same turn 1 / turn 1 / turn 1", "same turn 1 / / turn 1",
    "same turn 4 / turn 1", "same turn 1 / turn 0", "same turn 1 / ", "same turn 1 to sea / turn 1",
    f"same turn 1 / {TOO_LONG}", f"same {TOO_LONG} / turn 1", "difference turn 1", "difference turn 1 /",
    "difference / turn 1", "difference turn 1 / turn", "difference turn 1 turn 2", "difference turn 1 or turn 1",
    "difference turn 1 / turn 1 / turn 1",
)


def ready():
    """Return a console with two pictures."""
    console = Console()
    console.say("add sea 800x600")
    console.say("add hill 300x400")
    return console


class ConsoleTest(ProgramTest):

    def assert_unchanged(self, console, error_class, value, line):
        """The line is refused and changes nothing."""
        before = state_of(console.gallery)
        self.assert_told(error_class, "value", value, console.say, line)
        self.assertEqual(state_of(console.gallery), before)

    def assert_answers(self, console, *lines):
        """The console answers each line, up to the sign `->`, as it says behind it."""
        for line in lines:
            command, answer = line.split(" -> ")
            found = console.say(command)
            self.assertEqual([found, type(found)], [answer, str], line)


class CommandTest(ConsoleTest):

    def test_at_first(self):
        console = Console()
        self.assertEqual(list(vars(console)), ["gallery"])
        self.assertIs(type(console.gallery), Gallery)
        self.assertEqual([console.gallery, console.gallery.log], [Gallery(), ()])
        self.assert_answers(console, "names -> -")

    def test_all_commands(self):
        console = Console()
        self.assert_answers(
            console, "names -> -", "add sea 800x600 -> ok", "names -> sea", "add hill 1/2x7/3 -> ok",
            "names -> hill sea", "size sea -> 800x600", "size hill -> 1/2x7/3",
            "apply shrink 4x4, turn 1 to sea -> ok", "size sea -> 3x4", "size hill -> 1/2x7/3",
            "apply turn 1 -> ok", "size sea -> 4x3", "size hill -> 7/3x1/2", "undo -> ok",
            "size sea -> 3x4", "size hill -> 1/2x7/3", "undo -> ok", "size sea -> 800x600", "remove sea -> ok",
            "names -> hill", "remove hill -> ok", "names -> -", "undo -> ok", "undo -> ok", "names -> hill sea",
            "same turn 2 / turn 1, turn 3 -> yes", "same turn 1 / turn 2 -> no",
            "difference turn 2 / turn 1, turn 3 -> -")
        size = Size.read(console.say("difference turn 1 / turn 2"))
        self.assertEqual(size, difference(Chain.read("turn 1"), Chain.read("turn 2")))

    def test_apply(self):
        console = ready()
        self.assert_answers(console, "apply turn 1 to sea -> ok", "apply width 1:1 left, turn 3 -> ok")
        self.assertEqual(repr(console.gallery.log[2:]), "(('change', Chain(1), ('sea',)), ('change', Chain(2), ()))")
        self.assert_answers(console, f"apply {LONGEST} to hill -> ok", f"apply {LONGEST} -> ok")
        self.assertEqual(len(console.gallery.log), 6)

    def test_names_that_are_words(self):
        console = Console()
        for name in ("to", "add", "remove", "undo", "apply", "size", "names", "same", "turn", "shrink", "left"):
            self.assert_answers(console, f"add {name} 4x3 -> ok", f"apply turn 1 to {name} -> ok",
                                f"size {name} -> 3x4", f"remove {name} -> ok", "undo -> ok")
        self.assert_answers(
            console, "names -> add apply left names remove same shrink size to turn undo", "apply turn 1 to to -> ok",
            "size to -> 4x3", "size turn -> 3x4")

    def test_refused_lines(self):
        for line in NO_LINES:
            with self.subTest(line=line):
                self.assert_unchanged(Console(), InvalidLine, line, line)
                self.assert_unchanged(ready(), InvalidLine, line, line)

    def test_what_is_no_string(self):
        console = ready()
        for value in (None, True, 0, FORTY, b"names", ["names"], ("names",), ("add", "lake", "8x6"), {}, {"names": 1},
                      set(), object(), Console, console, Size(8, 6), Chain(), len):
            self.assert_unchanged(console, InvalidLine, value, value)
            self.assert_refused(InvalidLine, value, console.say, line=value)

    def test_errors_of_the_gallery(self):
        console = ready()
        for line, error_class, value in (
                ("add Lake 8x6", InvalidName, "Lake"), ("add self 8x6", InvalidName, "self"),
                ("add abcdefghi 8x6", InvalidName, "abcdefghi"), ("add 8x6 8x6", InvalidName, "8x6"),
                ("add - 8x6", InvalidName, "-"), ("add sea 8x6", NameTaken, "sea"),
                ("remove lake", UnknownName, "lake"), ("remove Sea", UnknownName, "Sea"),
                ("remove self", UnknownName, "self"), ("remove 1", UnknownName, "1"),
                ("size lake", UnknownName, "lake"), ("size -", UnknownName, "-"),
                ("apply turn 1 to lake", UnknownName, "lake"),
                ("apply turn 1 to SEA", UnknownName, "SEA"), ("apply turn 1 to to", UnknownName, "to"),
                ("apply turn 1 to sea,", UnknownName, "sea,")):
            self.assert_unchanged(console, error_class, value, line)
        self.assert_answers(console, "names -> hill sea", "undo -> ok", "undo -> ok")
        with self.assertRaises(NothingToUndo) as caught:
            console.say("undo")
        self.assertIs(type(caught.exception), NothingToUndo)
        self.assert_answers(console, "names -> -", "apply turn 1 -> ok")

    def test_too_many_deeds(self):
        console = ready()
        for _ in range(398):
            console.say("apply turn 1 to sea")
        for line in ("add lake 8x6", "remove sea", "apply turn 1", "apply turn 1 to sea"):
            before = state_of(console.gallery)
            self.assert_told(TooManyDeeds, "count", 400, console.say, line)
            self.assertEqual(state_of(console.gallery), before)
        self.assert_unchanged(console, UnknownName, "lake", "remove lake")
        self.assert_unchanged(console, InvalidLine, "add lake 8", "add lake 8")
        self.assert_answers(console, "size sea -> 800x600", "undo -> ok", "add lake 8x6 -> ok")

    def test_chains_compared(self):
        console = Console()
        for pairs, answer in ((SAME, "yes"), (DIFFERENT, "no")):
            for one, other in pairs:
                if one and other:
                    self.assertEqual(console.say(f"same {one} / {other}"), answer)
                    size = difference(Chain.read(one), Chain.read(other))
                    self.assertEqual(console.say(f"difference {one} / {other}"), str(size) if size else "-")
        self.assert_answers(console, f"same {LONGEST} / turn 1 -> no", f"same {LONGEST} / turn 1, turn 3 -> yes",
                            f"difference turn 1, turn 3 / {LONGEST} -> -")
        self.assertEqual(console.gallery.log, ())

    def test_by_name(self):
        console = ready()
        self.assertEqual([console.say(line="names"), console.say(line="size sea")], ["hill sea", "800x600"])

    def test_equal_only_to_itself(self):
        console, other = Console(), Console()
        self.assertIs(console == console, True)
        self.assertIs(console != console, False)
        for value in (other, None, Console, console.gallery, "Console()", 0):
            self.assertIs(console == value, False)
            self.assertIs(console != value, True)

    def test_the_methods_stand_in_the_class(self):
        self.assertEqual(Console.__bases__, (object,))
        self.assertIn("say", vars(Console))


class SeveralCallsTest(ConsoleTest):

    def test_two_consoles_do_not_touch_each_other(self):
        one, other = Console(), Console()
        self.assert_answers(one, "add sea 8x6 -> ok", "apply turn 1 -> ok")
        self.assert_answers(other, "names -> -", "add hill 3x4 -> ok", "apply turn 1 -> ok")
        self.assert_answers(one, "names -> sea", "size sea -> 6x8", "undo -> ok", "size sea -> 8x6")
        self.assert_answers(other, "names -> hill", "size hill -> 4x3")
        self.assertIsNot(one.gallery, other.gallery)

    def test_its_gallery_may_be_used_beside_it(self):
        console = ready()
        console.gallery.remove("sea")
        self.assert_answers(console, "names -> hill", "undo -> ok", "names -> hill sea")

    def test_like_a_gallery_to_which_the_same_is_done(self):
        chance = random.Random(71)
        for _ in range(30):
            console, gallery = Console(), Gallery()
            for _ in range(30):
                name, size = chance.choice(NAMES), random_size(chance, 9)
                chain = random_chain(chance, 9, chance.randint(1, 4))
                lines = {
                    f"add {name} {size}": lambda: gallery.add(name, size),
                    f"remove {name}": lambda: gallery.remove(name),
                    f"apply {chain}": lambda: gallery.change(chain), "undo": lambda: gallery.undo(),
                    f"apply {chain} to {name}": lambda: gallery.change(chain, name),
                }
                line = chance.choice([*lines, f"add {name} {size}"])
                self.assertEqual(self.outcome(lambda: console.say(line) and None), self.outcome(lines[line]), line)
                self.assertEqual([console.gallery, console.gallery.log], [gallery, gallery.log])
                self.assertEqual(console.say("names"), " ".join(gallery.names) or "-")
                for known in gallery.names:
                    self.assertEqual(console.say(f"size {known}"), str(gallery.size_of(known)))

    def outcome(self, call):
        """Return the class and the attributes of the error that the call raises, otherwise what it returns."""
        try:
            return call()
        except (InvalidName, NameTaken, UnknownName, NothingToUndo) as error:
            return type(error), vars(error)

    def test_answers_agree(self):
        console = Console()
        chance = random.Random(72)
        for _ in range(100):
            chain, other = random_chain(chance, 2, chance.randint(1, 3)), random_chain(chance, 2, chance.randint(1, 3))
            same = console.say(f"same {chain} / {other}")
            self.assertEqual(same, "yes" if same_effect(chain, other) else "no")
            self.assertEqual(console.say(f"difference {chain} / {other}") == "-", same == "yes")


if __name__ == "__main__":
    unittest.main()
