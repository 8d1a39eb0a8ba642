"""The checker (promise 8 of stage 4)."""

import ast
import random
import unittest
from itertools import combinations, product

from sizechains import checker
from sizechains.chains import Chain
from sizechains.checker import check
from sizechains.errors import InvalidText
from sizechains.promises import always_fits, limits_of
from sizechains.records import find_box
from sizechains.results import has_result
from sizechains.sizes import Size
from sizechains.steps import Shrink
from sizechains.tables import table
from tests.helper import FORTY, LONG, NO_SIZES, ProgramTest
from tests.model import (
    TINY, chain_result, number, random_chain, random_chains, random_size, scaled, sides_of, size_of,
    sizes_at_bounds, sizes_to_try)
from tests.test_chains import NO_CHAINS
from tests.test_records import BY_HAND, boxes_explain, records_of
from tests.test_steps import Agreeable

CONTRARY = {
    "same": "different", "different": "same", "fits": "misfit", "misfit": "fits", "result": "no result",
    "no result": "result", "box": "no box", "no box": "box",
}
LONGEST = ", ".join(["turn 1"] * 60)
TOO_LONG = ", ".join(["turn 1"] * 61)
RECORDS = (("8x6", "4x3"), ("8x8", "2x2"))
THREE = (("8x6", "4x3"), ("2x5", "2x5"), ("6x2", "6x2"))

def listed(claims):
    """Return the pairs of claims and papers that stand in a dict by their words."""
    return [((word, first, second), paper) for word, rows in claims.items() for first, second, paper in rows]


ACCEPTED = listed({
    "same": (
        ("", "", None), ("turn 2", "", None), (LONGEST, "", None), ("width 1:1 left", "width 2:2 right", None),
        ("shrink 4x2, shrink 3x3", "shrink 3x2", None)),
    "different": (
        ("turn 1", "", "2x1"), ("turn 1", "", "1/2x7"), ("landscape", "", "1x2"), (LONGEST, "turn 1", "2x1"),
        ("shrink 4x2", "shrink 4x3", "9x9")),
    "fits": (
        ("shrink 4x2", "4x2", None), ("shrink 4x2", "9/2x5", None), ("shrink 4x2, turn 1", "2x4", None),
        ("width 1:1 left, height 1:1 top, shrink 9x5", "5x5", None)),
    "misfit": (
        ("shrink 4x2", "4x1", "4x2"), ("shrink 4x2", "39/10x2", "4x1"), ("", "4x2", "5x1"), (LONGEST, "4x2", "2x5"),
        ("grow 4x2 cover", "4x2", "1x9")),
    "result": (
        ("shrink 4x2", "4x1", "8x2"), ("shrink 4x2", "4x1", "4x1"), ("", "7/3x2", "7/3x2"),
        ("landscape", "2x1", "2x1"), ("landscape", "2x1", "1x2")),
    "no result": (
        ("shrink 4x2", "5x1", None), ("landscape", "1x2", None), ("width 1:1 left", "2x1", None),
        ("grow 4x4, shrink 4x4", "3x3", None), ("shrink 4x2, height 1:1 top", "3x3", None),
        ("shrink 4x2, width 1:1 left", "5/2x5/2", None), ("grow 4x2 cover, width 1:1 left", "1x1", None)),
    "box": (
        ("shrink", RECORDS[:1], "shrink 4x3"), ("shrink", RECORDS[:1], "shrink 9x3"),
        ("shrink", RECORDS[:1] * 40, "shrink 4x3"), ("shrink cover", RECORDS[:1], "shrink 3x3 cover"),
        ("grow", (("4x3", "8x6"),), "grow 8x7"), ("shrink", (), "shrink 7x7"), ("grow", (), "grow 7x7"),
        ("shrink cover", (), "shrink 7x7 cover"), ("grow cover", (), "grow 1000000x1 cover")),
    "no box": (
        ("shrink", RECORDS, (0, 1)), ("shrink", THREE, (0, 1, 2)), ("shrink", (("8x6", "4x4"),), (0,)),
        ("shrink", (("8x6", "4x4"), ("1x1", "1x1")), (0, 1)), ("shrink", (("2000002x2", "1000001x1"),), (0,)),
        ("grow", (("1x1", "1000001x1000001"),), (0,)), ("grow", (("8x6", "4x3"),), (0,)),
        ("shrink", (("1x1", "1x1"), ("1x1", "1x1"), ("8x6", "4x4")), (0, 1, 2)),
        ("shrink", (("1x1", "1x1"),) * 38 + RECORDS, (38, 39))),
})
NO_BARRING = (
    (), (0,), (1,), (1, 0), (0, 0), (0, 2), (-1, 0), (-2, 1), (-2, -1), (0, 1, 2), (0, 0, 1), (0, 1, 1), [0, 1],
    (0, True), (False, True), (False, 1), ("0", "1"), (0, None), None, "01", 0, (0, FORTY), ((0, 1),), {0: 1, 1: 1},
)
# Of the right forms, but the claim is false or the paper does not show it.
REJECTED = listed({
    "same": (
        ("turn 1", "", None), ("turn 1", "turn 3, landscape", None), ("", "", ""), ("", "", "2x1"), ("", "", False),
        ("", "", 0), ("", "", ())),
    "different": (
        ("turn 1", "", "1x1"), ("turn 2", "", "2x1"), ("turn 1", "", None), ("shrink 4x2", "shrink 4x3", "9x3")),
    "fits": (
        ("shrink 4x2", "4x1", None), ("shrink 4x2", "3x2", None), ("", "1000x1000", None), ("shrink 4x2", "4x2", "4x2"),
        ("shrink 4x2 cover", "1000000x1000000", None), ("shrink 4x2", "4x2", ""),
        ("shrink 4x2", "399999999999999999999/100000000000000000000x2", None)),
    "misfit": (
        ("shrink 4x2", "4x2", "9x9"), ("shrink 4x2", "4x1", "1x1"), ("", "4x2", "4x2"), ("", "4x2", None)),
    "result": (
        ("shrink 4x2", "5x1", "5x1"), ("shrink 4x2", "4x1", "9x2"), ("landscape", "1x2", "1x2"), ("", "4x1", None)),
    "no result": (
        ("shrink 4x2", "4x1", None), ("", "1x1", None), ("landscape", "1x1", None), ("shrink 4x2", "5x1", "5x1"),
        ("width 1:1 left", "1x1", None), ("grow 4x2, width 1:1 left", "1x1", None),
        ("grow 4x2, width 1:1 left", "1/1000x1/1000", None), ("grow 4x2, height 1:1 top", "1/9x1/9", None),
        ("shrink 4x2, height 1:1 top", "2x2", None), ("shrink 4x2 cover, height 1:1 top", "4x4", None),
        ("shrink 4x2 cover, width 1:1 left", "4x4", None)),
    "box": (
        ("shrink", RECORDS, "shrink 4x3"), ("shrink", RECORDS[:1], "shrink 4x2"), ("grow", (), None),
        ("shrink", RECORDS[:1], "shrink 4x3 cover"), ("shrink", RECORDS[:1], "grow 4x3"),
        ("shrink cover", RECORDS[:1], "shrink 4x3"), ("shrink", (), "grow 7x7"), ("grow", (), "shrink 7x7"),
        ("shrink", (), "turn 1"), ("shrink", (), "width 1:1 left"), ("shrink", (), "shrink 0x1"),
        ("shrink", (), "shrink 1000001x1"), ("shrink", (), "shrink 4x2, turn 1"),
        ("shrink", RECORDS[:1], ("shrink 4x3",)), ("shrink", RECORDS[:1], Shrink(4, 3))),
    "no box": (
        ("shrink", (), ()), ("grow", (), (0,)), ("shrink", RECORDS * 2, (0, 1, 2, 3)), ("shrink", THREE, (0, 1)),
        ("shrink", THREE, (1, 2)), ("grow", (("4x3", "8x6"),), (0,)),
        ("shrink cover", (("2000002x2", "1000001x1"),), (0,)),
        *[("shrink", RECORDS, paper) for paper in NO_BARRING]),
})
# Of none of the forms of papers.
NO_PAPERS = tuple([value for value in NO_CHAINS + NO_SIZES if value is not None and value != "8x6"]) + (
    "4", "x", "1x", "x1", "0x1", "2/2x1", "1x1 ", " 1x1", "1X1", "-1x1", "1x1x1", "turn 1", b"2x1", b"shrink 4x3", 1, 2,
    (0, 1, 2, 3), [0], [0, 1], {0, 1}, (None,), ((0,),), ("0",), (True,), (0, True), (False,), Agreeable(), Size(2, 1),
    Shrink(4, 3), InvalidText("2x1"), FORTY, -1, LONG,
)


OTHERS = (None, True, 0, b"", ("",), [], (), {}, set(), object(), Size(4, 2), Chain(), Agreeable(), len)
NO_CHAIN_TEXTS = ("turn 4", " ", "turn 1,", "shrink 4x2 ", "-", "Turn 1", TOO_LONG, "1x1/0")
NO_SIZE_TEXTS = ("", "4", "4x", "4x02", "8/2x1", "4x2x1", " 4x2", "turn 1", "-4x2", "0x1")
NO_KIND_TEXTS = ("", "Shrink", "shrink  cover", "shrink fit", "cover", "cover shrink", "shrinkcover", "turn")
NO_RECORD_TEXTS = (
    "8x6", ("8x6",), ("8x6", "4x3", "4x3"), ["8x6", "4x3"], ("8x6", 4), ("8x6", "4X3"), ("", ""), ("8x6", None),
    (Size(8, 6), Size(4, 3)), ("8x6", Size(4, 3)), (b"8x6", "4x3"), ("8/2x6", "4x3"),
)


def variants_of_parts(claim):
    """Yield claims with one part that is of no form."""
    word, first, second = claim
    for value in OTHERS + (word.upper(), word + " ", "", "equal"):
        yield value, first, second
    if word in ("same", "different"):
        yield from ((word, first, value) for value in OTHERS + NO_CHAIN_TEXTS)
    if word in ("fits", "misfit", "result", "no result"):
        yield from ((word, first, value) for value in OTHERS + NO_SIZE_TEXTS)
    if word in ("box", "no box"):
        yield from ((word, value, second) for value in OTHERS + NO_KIND_TEXTS)
        yield from ((word, first, value) for value in OTHERS if value != ())
        yield from ((word, first, second + (record,)) for record in OTHERS + NO_RECORD_TEXTS)
        yield from ((word, first, (record,) + second) for record in OTHERS + NO_RECORD_TEXTS)
        yield word, first, list(second)
        yield word, first, (second or RECORDS) * 41
    else:
        yield from ((word, value, second) for value in OTHERS + NO_CHAIN_TEXTS)


def variants(claim):
    """Return values that are like the claim, but of none of the forms."""
    word, first, second = claim
    tuples = (claim[:2], claim[:1], (), claim + ("",), claim + (None,), (word, (first, second)), (claim,))
    return [*variants_of_parts(claim), *tuples, list(claim), word, f"{word} {first}", {word: first}, *OTHERS]


class HandTest(ProgramTest):

    def test_accepted(self):
        for claim, paper in ACCEPTED:
            with self.subTest(claim=claim, paper=paper):
                self.assertIs(check(claim, paper), True)
                self.assertIs(check(paper=paper, claim=claim), True)
                self.assertIs(check((CONTRARY[claim[0]],) + claim[1:], paper), False)

    def test_rejected(self):
        for claim, paper in REJECTED:
            with self.subTest(claim=claim, paper=paper):
                self.assertIs(check(claim, paper), False)
                self.assertIs(check(paper=paper, claim=claim), False)

    def test_all_words(self):
        self.assertEqual({claim[0] for claim, _ in ACCEPTED}, set(CONTRARY))
        self.assertEqual({claim[0] for claim, _ in REJECTED}, set(CONTRARY))

    def test_other_forms_of_claims(self):
        # The last certificate of each word.
        for claim, paper in {claim[0]: (claim, paper) for claim, paper in ACCEPTED}.values():
            self.assertIs(check(claim, paper), True)
            for other in variants(claim):
                with self.subTest(claim=other):
                    self.assertIs(check(other, paper), False)

    def test_other_forms_of_papers(self):
        for claim, paper in ACCEPTED:
            for other in NO_PAPERS:
                self.assertIs(check(claim, other), False, (claim, other))
            self.assertIs(check(claim, None), paper is None)

    def test_sixty_steps_and_forty_records(self):
        longest = ", ".join(["turn 1"] * 59 + ["shrink 4x2"])
        for claim, paper in ((("same", longest, longest), None), (("fits", longest, "4x2"), None),
                             (("misfit", longest, "1x1"), "4x4"), (("result", longest, "4x2"), "2x4"),
                             (("no result", longest, "5x5"), None), (("different", longest, ""), "9x9")):
            self.assertIs(check(claim, paper), True)
            self.assertIs(check((claim[0], longest + ", turn 2", claim[2]), paper), False)
        self.assertIs(check(("same", TOO_LONG, TOO_LONG), None), False)
        self.assertIs(check(("same", LONGEST, TOO_LONG), None), False)
        self.assertIs(check(("different", TOO_LONG, ""), "2x1"), False)
        for kind, paper in (("shrink", "shrink 4x3"), ("shrink cover", "shrink 4x3 cover")):
            self.assertIs(check(("box", kind, RECORDS[:1] * 40), paper), True)
            self.assertIs(check(("box", kind, RECORDS[:1] * 41), paper), False)
        self.assertIs(check(("no box", "shrink", RECORDS * 20), (38, 39)), True)
        self.assertIs(check(("no box", "shrink", RECORDS * 20 + RECORDS[:1]), (38, 39)), False)

    def test_records_by_hand(self):
        for kind, cover, texts, _, barred in BY_HAND:
            word = f"{kind} cover" if cover else kind
            records = tuple([tuple(text.split(" to ")) for text in texts])
            if barred is not None:
                self.assertIs(check(("no box", word, records), barred), True)
            for count in (1, 2, 3):
                for indexes in product(range(len(records)), repeat=count):
                    chosen = tuple([records_of(*texts)[index] for index in indexes])
                    expected = list(indexes) == sorted(set(indexes)) and find_box(kind, chosen, cover=cover) is None
                    self.assertIs(check(("no box", word, records), indexes), expected)

    def test_imports(self):
        allowed = {f"sizechains.{name}" for name in ("limits", "errors", "exact", "sizes", "steps", "chains", "tables")}
        with open(checker.__file__, encoding="utf-8") as file:
            tree = ast.parse(file.read())
        found = {node.module for node in ast.walk(tree) if isinstance(node, ast.ImportFrom)}
        self.assertLessEqual(found, allowed)
        self.assertFalse([node for node in ast.walk(tree) if isinstance(node, ast.Import)])


class TruthTest(ProgramTest):
    """What is accepted is true for all that is tried, and then nothing is accepted for the contrary claim."""

    def check_papers(self, claim, papers, holds):
        """Return how many of the papers, which hold or not, are accepted, and that none is for the contrary claim."""
        accepted = 0
        contrary = (CONTRARY[claim[0]],) + claim[1:]
        for paper in papers:
            expected = holds(paper)
            self.assertIs(check(claim, paper), expected, (claim, paper))
            accepted += expected
        if accepted:
            for paper in papers + [None]:
                self.assertIs(check(contrary, paper), False, (contrary, paper))
        return accepted

    def test_effects(self):
        chance = random.Random(81)
        found = {"same": 0, "different": 0}
        for _ in range(700):
            chain, other = random_chain(chance, 2, chance.randint(0, 3)), random_chain(chance, 2, chance.randint(0, 3))
            texts = (str(chain), str(other))
            sizes = sizes_to_try(table(chain))[::7] + sizes_to_try(table(other))[::7]
            same = all(chain_result(texts[0], size) == chain_result(texts[1], size) for size in sizes)
            self.assertIs(check(("same", *texts), None), table(chain) == table(other))
            if table(chain) == table(other):
                self.assertTrue(same)
            found["same"] += self.check_papers(("same", *texts), [None], lambda paper: table(chain) == table(other))
            found["different"] += self.check_papers(
                ("different", *texts), [str(size) for size in sizes[::9]],
                lambda paper: chain_result(texts[0], Size.read(paper)) != chain_result(texts[1], Size.read(paper)))
        self.assertGreater(min(found.values()), 50)

    def test_boxes_for_results(self):
        chance = random.Random(82)
        found = {"fits": 0, "misfit": 0}
        for chain in random_chains():
            limits = limits_of(chain)
            boxes = [random_size(chance, 9), Size(10 ** 6, 10 ** 6)]
            if limits[1] and limits[3]:
                width, height = number(limits[1]), number(limits[3])
                boxes += [size_of(width * one, height * other) for one, other in (
                    (1, 1), (1 - TINY, 1), (1, 1 - TINY), (1 + TINY, 1), (2, 3))]
            sizes = [str(size) for size in sizes_at_bounds(table(chain))[:8]] + ["1x1", "1000000000000x1000000000000"]
            for box in boxes:
                claim = (str(chain), str(box))
                fits = always_fits(chain, box.width, box.height)
                found["fits"] += self.check_papers(("fits", *claim), [None], lambda paper: fits)
                found["misfit"] += self.check_papers(
                    ("misfit", *claim), sizes, lambda paper: chain_result(str(chain), Size.read(paper)) not in box)
                if fits:
                    self.assertTrue(all(chain_result(str(chain), Size.read(text)) in box for text in sizes))
        self.assertGreater(min(found.values()), 50)

    def test_results(self):
        chance = random.Random(83)
        found = {"result": 0, "no result": 0}
        for chain in random_chains():
            sizes = [random_size(chance, 4) for _ in range(4)]
            ends = [chain(sizes[0]) * by for by in (1, 2, 1000, (1, 2), (1, 1000))]
            for size in sizes + ends:
                claim = (str(chain), str(size))
                found["no result"] += self.check_papers(
                    ("no result", *claim), [None], lambda paper: not has_result(chain, size))
                found["result"] += self.check_papers(
                    ("result", *claim), [str(other) for other in sizes + [size, size.turned()]],
                    lambda paper: chain_result(str(chain), Size.read(paper)) == size)
        self.assertGreater(min(found.values()), 100)

    def test_records(self):
        chance = random.Random(84)
        found = {"box": 0, "no box": 0}
        for _ in range(500):
            kind, cover = chance.choice((("shrink", False), ("shrink", True), ("grow", False), ("grow", True)))
            ending = " cover" if cover else ""
            sides = [sides_of(random_size(chance, 4)) for _ in range(chance.randint(1, 3))]
            boxes = [(chance.randint(1, 5), chance.randint(1, 5)) for _ in range(2)]
            records = [(before, scaled(kind, chance.choice(boxes), cover, *before)) for before in sides]
            texts = tuple([(str(size_of(*before)), str(size_of(*after))) for before, after in records])
            explaining = boxes_explain(kind, cover, records, 6)
            papers = [f"{kind} {width}x{height}{ending}" for width, height in product(range(1, 7), repeat=2)]
            found["box"] += self.check_papers(
                ("box", kind + ending, texts), papers,
                lambda paper: all(tuple(map(int, paper.split()[1].split("x"))) in boxes for boxes in explaining))
            told = records_of(*[f"{before} to {after}" for before, after in texts])
            found["no box"] += self.check_papers(
                ("no box", kind + ending, texts), list(combinations(range(len(texts)), 2)),
                lambda paper: find_box(kind, tuple([told[index] for index in paper]), cover=cover) is None)
        self.assertGreater(min(found.values()), 50)


if __name__ == "__main__":
    unittest.main()
