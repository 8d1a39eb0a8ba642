"""The examples of the document, as they stand there, and those of README.md."""

import doctest
import unittest
from pathlib import Path

from tests.helper import run_example

README = Path(__file__).resolve().parent.parent / "README.md"

EXACT = '''
>>> from sizechains.exact import compare, format_fraction, fraction, parse_fraction, product, quotient
>>> [fraction(6, 4), product((3, 2), (4, 1)), quotient((3, 2), (3, 4)), compare((1, 2), (2, 3)), format_fraction((4, 1)), parse_fraction("3/2")]
[(3, 2), (6, 1), (2, 1), -1, '4', (3, 2)]
'''
EXACT_REFUSED = '''
>>> from sizechains.exact import parse_fraction
>>> parse_fraction("6/4")
raises InvalidText(value='6/4')
'''
SIZES = '''
>>> from sizechains.sizes import Size
>>> size = Size(8, (9, 2))
>>> [size.width, size.height, size.ratio, str(size), size * 2 == Size.read("16x9"), Size(4, 3) in size, 3 in size, repr(size.turned())]
[(8, 1), (9, 2), (16, 9), '8x9/2', True, True, False, 'Size(9/2x8)']
'''
SIZES_REFUSED = '''
>>> from sizechains.sizes import Size
>>> Size(8, (6, 4))
raises InvalidFraction(value=(6, 4))
'''
STEPS = '''
>>> from sizechains.sizes import Size
>>> from sizechains.steps import CropHeight, CropWidth, Grow, Landscape, Shrink, Turn
>>> size = Size(8, 6)
>>> first = [str(Shrink(4, 2).apply(size)), str(Shrink(4, 2, cover=True).apply(size)), str(Grow(20, 30).apply(size))]
>>> second = [str(CropWidth(1, 1).apply(size)), str(CropHeight(2, 1).apply(size)), str(Turn().apply(size))]
>>> first + second + [str(Landscape().apply(size)), CropWidth(2, 2) == CropWidth(1, 1)]
['8/3x2', '4x3', '20x15', '6x6', '8x4', '6x8', '8x6', False]
'''
STEPS_READ = '''
>>> from sizechains.steps import Step
>>> step = Step.read("width 16:9 left")
>>> [step.width, step.height, step.keep, step.WORD, repr(step)]
[16, 9, 'left', 'width', 'Step(width 16:9 left)']
'''
STEPS_REFUSED = '''
>>> from sizechains.steps import CropHeight
>>> CropHeight(1, 1, keep="left")
raises InvalidKeep(value='left')
'''
CHAINS = '''
>>> from sizechains.chains import Chain
>>> from sizechains.sizes import Size
>>> from sizechains.steps import CropWidth, Shrink
>>> chain = Chain(Shrink(4, 2), CropWidth(1, 1))
>>> first = [str(chain(Size(8, 6))), repr(list(chain.walk(Size(8, 6)))), str(chain), len(chain * 3), Shrink(4, 2) in chain]
>>> first + [chain[1] == CropWidth(1, 1), chain + Chain() == chain, Chain.read("shrink 4x2, width 1:1 center") == chain]
['2x2', '[Size(8/3x2), Size(2x2)]', 'shrink 4x2, width 1:1 center', 6, True, True, True, True]
'''
CHAINS_REFUSED = '''
>>> from sizechains.chains import Chain
>>> Chain()[0]
raises NoStep(value=0)
'''
TABLES = '''
>>> from sizechains.chains import Chain
>>> from sizechains.tables import table
>>> table(Chain.read("shrink 4x2"))
((None, (2, 1), 'same', ((1, 1), 'height'), None, ((2, 1), 0)), ((2, 1), None, 'same', ((1, 1), 'height'), None, ((4, 1), -1)))
'''
TABLES_CROPPED = '''
>>> from sizechains.chains import Chain
>>> from sizechains.tables import table
>>> table(Chain.read("height 1:1 center, shrink 5x9"))
((None, (1, 1), (1, 1), ((1, 1), 'width'), None, ((5, 1), 0)), ((1, 1), None, 'same', ((1, 1), 'height'), None, ((5, 1), -1)))
'''
TABLES_TURNED = '''
>>> from sizechains.chains import Chain
>>> from sizechains.tables import table
>>> [table(Chain.read("turn 3")), table(Chain.read("grow 9x9, shrink 3x3"))[0]]
[((None, None, 'inverse', ((1, 1), 'width'), None, None),), (None, (1, 1), 'same', None, ((3, 1), 0), ((3, 1), 0))]
'''
COMPARING = '''
>>> from sizechains.chains import Chain
>>> from sizechains.comparing import commute, difference, is_stable, same_effect
>>> box, square = Chain.read("shrink 4x4"), Chain.read("width 1:1 center")
>>> size = difference(box + square, square + box)
>>> [same_effect(Chain.read("shrink 4x2, shrink 3x3"), Chain.read("shrink 3x2")), (box + square)(size) == (square + box)(size), commute(box, square), is_stable(box), is_stable(Chain.read("turn 1"))]
[True, False, False, True, False]
'''
PROMISES = '''
>>> from sizechains.chains import Chain
>>> from sizechains.promises import always_covers, always_fits, limits_of, misfit
>>> from sizechains.sizes import Size
>>> chain = Chain.read("shrink 4x2, turn 1")
>>> size = misfit(chain, 4, 2)
>>> [always_fits(chain, 2, 4), chain(size) in Size(4, 2), always_covers(Chain.read("grow 3x2 cover"), 3, 2), limits_of(Chain.read("shrink 4x2, width 1:1 center"))]
[True, False, True, (None, (2, 1), None, (2, 1), None, (1, 1))]
'''
RESULTS = '''
>>> from sizechains.chains import Chain
>>> from sizechains.results import count_sources, has_result, source
>>> from sizechains.sizes import Size
>>> box = Chain.read("shrink 4x2")
>>> first = [has_result(box, Size(4, 1)), has_result(box, Size(5, 1)), box(source(box, Size(4, 1))) == Size(4, 1), source(box, Size(5, 1))]
>>> first + [count_sources(box, Size(4, 1)), count_sources(box, Size(1, 1)), count_sources(Chain.read("landscape"), Size(2, 1))]
[True, False, True, None, None, 1, 2]
'''
VIEWS = '''
>>> from sizechains.chains import Chain
>>> from sizechains.sizes import Size
>>> from sizechains.views import same_pictures, view
>>> first = [view(Chain.read("width 1:1 left"), Size(4, 2)), view(Chain.read("turn 2, width 1:1 left"), Size(4, 2))]
>>> first + [same_pictures(Chain.read("turn 2, turn 2"), Chain()), same_pictures(Chain.read("turn 2"), Chain())]
[(0, (0, 1), (0, 1), (1, 2), (1, 1)), (2, (1, 2), (0, 1), (1, 1), (1, 1)), True, False]
'''
VIEWS_AT_ONE_RATIO = '''
>>> from sizechains.chains import Chain
>>> from sizechains.comparing import same_effect
>>> from sizechains.views import picture_difference
>>> chain, other = Chain.read("landscape, turn 1"), Chain.read("landscape, portrait")
>>> [same_effect(chain, other), picture_difference(chain, other).ratio]
[True, (1, 1)]
'''
RECORDS = '''
>>> from sizechains.records import barring, explains, find_box
>>> from sizechains.sizes import Size
>>> records = ((Size(8, 6), Size(4, 3)), (Size(2, 2), Size(2, 2)))
>>> step = find_box("shrink", records)
>>> [explains(step, records), barring("shrink", records), barring("shrink", records + ((Size(8, 8), Size(2, 2)),)), find_box("grow", records)]
[True, None, (0, 2), None]
'''
GALLERY = r'''
>>> from sizechains.chains import Chain
>>> from sizechains.gallery import Gallery
>>> from sizechains.sizes import Size
>>> gallery = Gallery(sea=Size(800, 600), hill=Size(300, 400))
>>> gallery.change(Chain.read("landscape, shrink 100x50"))
>>> gallery.change(Chain.read("turn 1"), "sea")
>>> first = [gallery.names, str(gallery.size_of("sea")), repr(gallery.log), list(gallery.fitting(Size(70, 60))), gallery.listing()]
>>> gallery.undo(times=2)
>>> first + [str(gallery.size_of("hill")), gallery.log, "sea" in gallery]
[('hill', 'sea'), '50x200/3', "(('change', Chain(2), ()), ('change', Chain(1), ('sea',)))", ['hill'], 'hill            200/3           50\nsea                50        200/3', '300x400', (), True]
'''
GALLERY_REFUSED = '''
>>> from sizechains.gallery import Gallery
>>> from sizechains.sizes import Size
>>> Gallery(sea=Size(800, 600)).do_all(("remove", "sea"), ("remove", "sea"))
raises UnknownName(value='sea')
'''
CHECKER = '''
>>> from sizechains.checker import check
>>> records = (("8x6", "4x3"), ("8x8", "2x2"))
>>> first = [check(("same", "shrink 4x2, shrink 3x3", "shrink 3x2"), None), check(("different", "turn 1", ""), "2x1"), check(("fits", "shrink 4x2", "4x2"), None)]
>>> first + [check(("no result", "shrink 4x2", "5x1"), None), check(("no box", "shrink", records), (0, 1)), check(("box", "shrink", records), "shrink 4x3"), check(("same", "turn 1"), None)]
[True, True, True, True, True, False, False]
'''
CERTIFICATES = '''
>>> from sizechains.certificates import effect_certificate, result_certificate
>>> from sizechains.chains import Chain
>>> from sizechains.checker import check
>>> from sizechains.sizes import Size
>>> claim, paper = result_certificate(Chain.read("shrink 4x2"), Size(4, 1))
>>> [claim, check(claim, paper), effect_certificate(Chain.read("turn 2"), Chain())]
[('result', 'shrink 4x2', '4x1'), True, (('same', 'turn 2', ''), None)]
'''
CONSOLE = '''
>>> from sizechains.console import Console
>>> console = Console()
>>> [console.say("add sea 800x600"), console.say("apply shrink 4x4, turn 1 to sea"), console.say("size sea"), console.say("names"), console.say("same turn 2 / turn 1, turn 3")]
['ok', 'ok', '3x4', 'sea', 'yes']
'''
CONSOLE_REFUSED = '''
>>> from sizechains.console import Console
>>> Console().say("apply")
raises InvalidLine(value='apply')
'''
EXAMPLES = (
    EXACT, EXACT_REFUSED, SIZES, SIZES_REFUSED, STEPS, STEPS_READ, STEPS_REFUSED, CHAINS, CHAINS_REFUSED, TABLES,
    TABLES_CROPPED, TABLES_TURNED, COMPARING, PROMISES, RESULTS, VIEWS, VIEWS_AT_ONE_RATIO, RECORDS, GALLERY,
    GALLERY_REFUSED, CHECKER, CERTIFICATES, CONSOLE, CONSOLE_REFUSED)


class DocumentTest(unittest.TestCase):

    def test_examples(self):
        for text in EXAMPLES:
            with self.subTest(text=text):
                found, expected = run_example(text)
                self.assertEqual(found, expected)

    def test_readme(self):
        text = README.read_text().replace("```", "\n")
        examples = doctest.DocTestParser().get_doctest(text, {}, "README.md", str(README), 0)
        self.assertGreater(len(examples.examples), 40)
        told = []
        doctest.DocTestRunner(verbose=False).run(examples, out=told.append)
        self.assertEqual(told, [])


if __name__ == "__main__":
    unittest.main()
