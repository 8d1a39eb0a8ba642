"""Certificates (promises 9 and 10 of stage 4)."""

import random
import unittest

from sizechains.certificates import box_certificate, effect_certificate, fit_certificate, result_certificate
from sizechains.chains import Chain
from sizechains.checker import check
from sizechains.comparing import difference
from sizechains.errors import InvalidChain, InvalidKind, InvalidRecords, InvalidSize
from sizechains.promises import always_fits, limits_of
from sizechains.records import barring, explains
from sizechains.results import has_result
from sizechains.sizes import Size
from sizechains.steps import Step
from sizechains.tables import table
from tests.helper import FORTY, LONG, NO_SIZES, ProgramTest
from tests.model import (
    TINY, chain_result, number, random_chain, random_chains, random_size, scaled, scaling_chains, sides_of, size_of)
from tests.test_chains import NO_CHAINS
from tests.test_checker import CONTRARY
from tests.test_comparing import PairTest
from tests.test_records import BY_HAND, KINDS, NO_KINDS, NO_RECORDS, ONE, records_of

CHAINS = random_chains()


def read(text):
    return Chain.read(text)


class CertificateTest(ProgramTest):

    def check_certificate(self, certificate, claim):
        """It is this claim with a paper that is accepted, and not accepted for the contrary claim; return the paper."""
        self.assertIs(type(certificate), tuple)
        found, paper = certificate
        self.assertEqual(found, claim)
        self.assertIs(check(found, paper), True, certificate)
        self.assertIs(check((CONTRARY[found[0]],) + found[1:], paper), False)
        return paper

    def check_effect(self, chain, other):
        same = table(chain) == table(other)
        certificate = effect_certificate(chain, other)
        paper = self.check_certificate(certificate, ("same" if same else "different", str(chain), str(other)))
        if same:
            self.assertIsNone(paper)
        else:
            size = Size.read(paper)
            self.assertNotEqual(chain_result(str(chain), size), chain_result(str(other), size))
        self.assertEqual(effect_certificate(other=other, chain=chain), certificate)
        return certificate

    def check_fit(self, chain, size):
        fits = always_fits(chain, size.width, size.height)
        certificate = fit_certificate(chain, size)
        paper = self.check_certificate(certificate, ("fits" if fits else "misfit", str(chain), str(size)))
        if fits:
            self.assertIsNone(paper)
        else:
            self.assertNotIn(chain_result(str(chain), Size.read(paper)), size)
        self.assertEqual(fit_certificate(size=size, chain=chain), certificate)

    def check_result(self, chain, size):
        found = has_result(chain, size)
        certificate = result_certificate(chain, size)
        paper = self.check_certificate(certificate, ("result" if found else "no result", str(chain), str(size)))
        if found:
            self.assertEqual(chain_result(str(chain), Size.read(paper)), size)
        else:
            self.assertIsNone(paper)
        self.assertEqual(result_certificate(size=size, chain=chain), certificate)

    def check_box(self, kind, cover, records):
        barred = barring(kind, records, cover=cover)
        certificate = box_certificate(kind, records, cover=cover)
        texts = tuple([(str(before), str(after)) for before, after in records])
        claim = ("box" if barred is None else "no box", f"{kind} cover" if cover else kind, texts)
        paper = self.check_certificate(certificate, claim)
        if barred is None:
            self.assertIs(explains(Step.read(paper), records), True)
        else:
            self.assertEqual(paper, barred)
        self.assertEqual(box_certificate(cover=cover, records=records, kind=kind), certificate)

    def test_by_hand(self):
        for certificate, expected in (
                (effect_certificate(read("turn 2"), Chain()), (("same", "turn 2", ""), None)),
                (fit_certificate(read("shrink 4x2"), Size(4, (9, 4))), (("fits", "shrink 4x2", "4x9/4"), None)),
                (result_certificate(read("shrink 4x2"), Size(5, 1)), (("no result", "shrink 4x2", "5x1"), None)),
                (box_certificate("shrink", records_of("8x6 to 4x3", "8x8 to 2x2")),
                 (("no box", "shrink", (("8x6", "4x3"), ("8x8", "2x2"))), (0, 1))),
                (box_certificate("grow", records_of("8x6 to 4x3"), cover=True),
                 (("no box", "grow cover", (("8x6", "4x3"),)), (0,)))):
            self.assertEqual(certificate, expected)
        self.assertEqual(effect_certificate(Chain(), read("turn 1"))[0], ("different", "", "turn 1"))
        self.assertEqual(fit_certificate(Chain(), Size(4, 2))[0], ("misfit", "", "4x2"))
        self.assertEqual(result_certificate(Chain(), Size(4, 2)), (("result", "", "4x2"), "4x2"))
        self.assertEqual(box_certificate("grow", ())[0], ("box", "grow", ()))
        self.assertEqual(box_certificate("shrink", (), cover=True)[0], ("box", "shrink cover", ()))

    def test_effects(self):
        for chain in CHAINS[::4]:
            for other in CHAINS[::5]:
                self.check_effect(chain, other)
            self.check_effect(chain, chain)
        chance = random.Random(91)
        words = [self.check_effect(random_chain(chance, 2, chance.randint(0, 3)),
                                   random_chain(chance, 2, chance.randint(0, 3)))[0][0] for _ in range(500)]
        self.assertGreater(min(words.count("same"), words.count("different")), 20)

    def test_the_paper_is_what_difference_returns(self):
        chain, other = read("shrink 4x2"), read("shrink 4x2 cover")
        self.assertEqual(effect_certificate(chain, other)[1], str(difference(chain, other)))

    def test_boxes_for_results(self):
        chance = random.Random(92)
        for chain in CHAINS + scaling_chains():
            limits = limits_of(chain)
            sizes = [random_size(chance, 9)]
            if limits[1] and limits[3]:
                wide, high, less = number(limits[1]), number(limits[3]), 1 - TINY
                sizes += [size_of(wide, high), size_of(wide * less, high), size_of(wide, high * less)]
            for size in sizes:
                self.check_fit(chain, size)

    def test_results(self):
        chance = random.Random(93)
        for chain in CHAINS + scaling_chains():
            size = random_size(chance, 9)
            self.check_result(chain, size)
            self.check_result(chain, chain(size))
            self.check_result(chain, size_of(*[side * (1 + TINY) for side in sides_of(chain(size))]))

    def test_records(self):
        for kind, cover, texts, _, _ in BY_HAND:
            self.check_box(kind, cover, records_of(*texts))
        chance = random.Random(94)
        for turn in range(300):
            kind, cover = KINDS[turn % 4]
            boxes = [(chance.randint(1, 6), chance.randint(1, 6)) for _ in range(2)]
            befores = [sides_of(random_size(chance, 5)) for _ in range(chance.randint(0, 5))]
            afters = [scaled(kind, chance.choice(boxes), cover, *before) for before in befores]
            records = [(size_of(*before), size_of(*after)) for before, after in zip(befores, afters)]
            self.check_box(kind, cover, tuple(records))

    def test_sixty_steps_and_forty_records(self):
        longest = read("turn 1") * 59 + read("shrink 4x2")
        self.check_effect(longest, longest)
        self.check_effect(longest, read("landscape"))
        for size in (Size(4, 2), Size(4, 1), Size(FORTY, LONG)):
            self.check_fit(longest, size)
            self.check_result(longest, size)
        self.check_box("shrink", False, (ONE,) * 40)
        self.check_box("shrink", False, (ONE,) * 39 + ((Size(8, 8), Size(2, 2)),))

    def test_great_numbers(self):
        for size in (Size(FORTY, (1, FORTY)), Size(LONG, LONG), Size((1, LONG), (LONG, 2))):
            for text in ("", "shrink 4x2", "grow 4x2 cover, width 9:7 left", "landscape, grow 3x3, shrink 3x3"):
                self.check_fit(read(text), size)
                self.check_result(read(text), size)
            self.check_box("grow", False, ((size, size),))
            self.check_box("shrink", True, ((size, size * 2),))


class RefusalTest(PairTest):

    def test_chains_and_sizes(self):
        chain, size = read("shrink 4x2"), Size(4, 2)
        self.assert_refuses_no_chains(effect_certificate)
        for value in NO_CHAINS:
            for call in (fit_certificate, result_certificate):
                self.assert_refused(InvalidChain, value, call, value, size)
                self.assert_refused(InvalidChain, value, call, value, None)
                self.assert_refused(InvalidChain, value, call, size=0, chain=value)
        for value in NO_SIZES:
            for call in (fit_certificate, result_certificate):
                self.assert_refused(InvalidSize, value, call, chain, value)
                self.assert_refused(InvalidSize, value, call, size=value, chain=chain)
        self.assertEqual(fit_certificate(chain, size), (("fits", "shrink 4x2", "4x2"), None))
        self.assertEqual([str(chain), str(size)], ["shrink 4x2", "4x2"])

    def test_kinds_and_records(self):
        for value in NO_KINDS:
            self.assert_refused(InvalidKind, value, box_certificate, value, (ONE,))
            self.assert_refused(InvalidKind, value, box_certificate, value, None, cover=True)
            self.assert_refused(InvalidKind, value, box_certificate, records=[], kind=value)
        for value in (None, True, [], [ONE], {}, "", (ONE,) * 41, (None,) * 41):
            self.assert_told(InvalidRecords, "index", None, box_certificate, "shrink", value)
            self.assert_told(InvalidRecords, "index", None, box_certificate, records=value, kind="grow", cover=True)
        for value in NO_RECORDS:
            self.assert_told(InvalidRecords, "index", 1, box_certificate, "shrink", (ONE, value, value))
            self.assert_told(InvalidRecords, "index", 39, box_certificate, "grow", (ONE,) * 39 + (value,), cover=True)
        self.assertEqual(box_certificate("shrink", (ONE,))[0], ("box", "shrink", (("8x6", "4x3"),)))


if __name__ == "__main__":
    unittest.main()
