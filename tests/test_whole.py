"""The main promise, over the whole program (promise 11 of stage 4, point 3 of the document)."""

import random
import unittest

from sizechains.certificates import box_certificate, effect_certificate, fit_certificate, result_certificate
from sizechains.chains import Chain
from sizechains.checker import check
from sizechains.comparing import commute, difference, is_stable, same_effect
from sizechains.console import Console
from sizechains.gallery import Gallery
from sizechains.promises import always_covers, always_fits, gap, limits_of, misfit
from sizechains.records import barring, explains, find_box
from sizechains.results import count_sources, has_result, source
from sizechains.sizes import Size
from sizechains.tables import result_by, row_of, table
from sizechains.views import picture_difference, same_pictures, view
from tests.helper import ProgramTest
from tests.model import chain_result, chain_view, random_chain, random_size

ROUNDS = 150


class MainPromiseTest(ProgramTest):

    def setUp(self):
        self.chance = random.Random(1100)

    def any_chain(self):
        return random_chain(self.chance, self.chance.choice((2, 3, 9, 10 ** 6)), self.chance.randint(0, 6))

    def test_effects(self):
        for _ in range(ROUNDS):
            chain = self.any_chain()
            other = self.chance.choice((self.any_chain(), chain + Chain.read("turn 1, turn 3"), chain + chain))
            size = difference(chain, other)
            self.assertEqual(table(chain) == table(other), size is None)
            self.assertEqual(same_effect(chain, other), size is None)
            if size is not None:
                self.assertNotEqual(chain_result(str(chain), size), chain_result(str(other), size))
            self.assertEqual(effect_certificate(chain, other)[1], None if size is None else str(size))
            self.assertEqual(is_stable(chain), same_effect(chain + chain, chain))
            self.assertEqual(commute(chain, other), same_effect(chain + other, other + chain))

    def test_results(self):
        for _ in range(ROUNDS):
            chain, size = self.any_chain(), random_size(self.chance, 9)
            result = chain(size)
            self.assertEqual(result, chain_result(str(chain), size))
            self.assertEqual(result_by(row_of(chain, size), size), result)
            self.assertTrue(has_result(chain, result))
            self.assertEqual(chain(source(chain, result)), result)
            self.assertNotEqual(count_sources(chain, result), 0)
            self.assertEqual(source(chain, size) is not None, has_result(chain, size))
            self.assertEqual(count_sources(chain, size) != 0, has_result(chain, size))
            word = "result" if has_result(chain, size) else "no result"
            self.assertEqual(result_certificate(chain, size)[0][0], word)

    def test_boxes(self):
        for _ in range(ROUNDS):
            chain, box = self.any_chain(), random_size(self.chance, 9)
            size, low = misfit(chain, box.width, box.height), gap(chain, box.width, box.height)
            self.assertEqual(always_fits(chain, box.width, box.height), size is None)
            self.assertEqual(always_covers(chain, box.width, box.height), low is None)
            self.assertTrue(size is None or chain_result(str(chain), size) not in box)
            self.assertTrue(low is None or box not in chain_result(str(chain), low))
            self.assertEqual(fit_certificate(chain, box)[0][0], "fits" if size is None else "misfit")
            limits = limits_of(chain)
            result = chain(box)
            for least, value, most in zip(limits[::2], (result.width, result.height, result.ratio), limits[1::2]):
                self.assertTrue(least is None or Size(least, 1) in Size(value, 1))
                self.assertTrue(most is None or Size(value, 1) in Size(most, 1))

    def test_pictures(self):
        for _ in range(ROUNDS):
            chain, size = self.any_chain(), random_size(self.chance, 9)
            other = self.chance.choice((self.any_chain(), chain + Chain.read("turn 2, turn 2"), chain + chain))
            self.assertEqual(view(chain, size), chain_view(str(chain), size))
            found = picture_difference(chain, other)
            self.assertEqual(same_pictures(chain, other), found is None)
            if found is None:
                self.assertTrue(same_effect(chain, other))
                self.assertEqual(view(chain, size), view(other, size))
            else:
                self.assertNotEqual((chain(found), view(chain, found)), (other(found), view(other, found)))

    def test_records(self):
        for _ in range(ROUNDS):
            kind, cover = self.chance.choice(("shrink", "grow")), self.chance.random() < 0.5
            ending = " cover" if cover else ""
            boxes = [(self.chance.randint(1, 9), self.chance.randint(1, 9)) for _ in range(2)]
            texts = [f"{kind} {width}x{height}{ending}" for width, height in boxes]
            befores = [random_size(self.chance, 9) for _ in range(self.chance.randint(0, 6))]
            records = tuple([(size, chain_result(self.chance.choice(texts), size)) for size in befores])
            step, barred = find_box(kind, records, cover=cover), barring(kind, records, cover=cover)
            self.assertEqual(step is None, barred is not None)
            if step is not None:
                self.assertTrue(explains(step, records))
            else:
                chosen = [records[index] for index in barred]
                self.assertLessEqual(len(chosen), 3)
                self.assertIsNone(find_box(kind, tuple(chosen), cover=cover))
                for place in range(len(chosen)):
                    self.assertIsNotNone(find_box(kind, tuple(chosen[:place] + chosen[place + 1:]), cover=cover))
            self.assertEqual(box_certificate(kind, records, cover=cover)[1], barred or str(step))

    def test_what_the_checker_accepts(self):
        for _ in range(ROUNDS):
            chain, other, size = self.any_chain(), self.any_chain(), random_size(self.chance, 9)
            for claim, paper in (effect_certificate(chain, other), fit_certificate(chain, size),
                                 result_certificate(chain, size), result_certificate(chain, chain(size))):
                self.assertTrue(check(claim, paper))
                # The same paper for claims about another chain is accepted only if it is one for them, too.
                about_other = (claim[0], str(other), claim[2])
                self.assertEqual(check(about_other, paper), self.is_true(about_other, paper), (about_other, paper))

    def is_true(self, claim, paper):
        """Return True if the paper shows the claim to be true, as the other modules tell."""
        word, text, second = claim
        chain = Chain.read(text)
        if word in ("same", "different"):
            other = Chain.read(second)
            return same_effect(chain, other) if paper is None else chain(Size.read(paper)) != other(Size.read(paper))
        size = Size.read(second)
        if word == "misfit":
            return chain(Size.read(paper)) not in size
        if word == "result":
            return chain(Size.read(paper)) == size
        return always_fits(chain, size.width, size.height) if word == "fits" else not has_result(chain, size)

    def test_galleries(self):
        for _ in range(30):
            console, gallery = Console(), Gallery()
            for name in ("sea", "hill"):
                size = random_size(self.chance, 9)
                console.say(f"add {name} {size}")
                gallery.add(name, size)
            chain = self.any_chain() + Chain.read("turn 1")
            console.say(f"apply {chain} to sea")
            gallery.change(chain, "sea")
            self.assertEqual([console.gallery, console.gallery.log], [gallery, gallery.log])
            again = Gallery()
            again.do_all(*gallery.log)
            self.assertEqual(again, gallery)
            again.undo(times=3)
            self.assertEqual(again, Gallery())


if __name__ == "__main__":
    unittest.main()
