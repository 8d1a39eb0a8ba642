"""The examples of the document, as they stand there."""

import unittest

from tests.helper import run_example

EXACT = '''
>>> from sizechains.exact import compare, format_fraction, fraction, parse_fraction, product, quotient
>>> [fraction(6, 4), product((3, 2), (4, 1)), quotient((3, 2), (3, 4)), compare((1, 2), (2, 3)), format_fraction((4, 1)), parse_fraction("3/2")]
[(3, 2), (6, 1), (2, 1), -1, '4', (3, 2)]
'''
EXACT_REFUSED = '''
>>> from sizechains.exact import parse_fraction
>>> parse_fraction("6/4")
raises InvalidText(value='6/4')
'''
SIZES = '''
>>> from sizechains.sizes import Size
>>> size = Size(8, (9, 2))
>>> [size.width, size.height, size.ratio, str(size), size * 2 == Size.read("16x9"), Size(4, 3) in size, 3 in size, repr(size.turned())]
[(8, 1), (9, 2), (16, 9), '8x9/2', True, True, False, 'Size(9/2x8)']
'''
SIZES_REFUSED = '''
>>> from sizechains.sizes import Size
>>> Size(8, (6, 4))
raises InvalidFraction(value=(6, 4))
'''
STEPS = '''
>>> from sizechains.sizes import Size
>>> from sizechains.steps import CropHeight, CropWidth, Grow, Landscape, Shrink, Turn
>>> size = Size(8, 6)
>>> first = [str(Shrink(4, 2).apply(size)), str(Shrink(4, 2, cover=True).apply(size)), str(Grow(20, 30).apply(size))]
>>> second = [str(CropWidth(1, 1).apply(size)), str(CropHeight(2, 1).apply(size)), str(Turn().apply(size))]
>>> first + second + [str(Landscape().apply(size)), CropWidth(2, 2) == CropWidth(1, 1)]
['8/3x2', '4x3', '20x15', '6x6', '8x4', '6x8', '8x6', False]
'''
STEPS_READ = '''
>>> from sizechains.steps import Step
>>> step = Step.read("width 16:9 left")
>>> [step.width, step.height, step.keep, step.WORD, repr(step)]
[16, 9, 'left', 'width', 'Step(width 16:9 left)']
'''
STEPS_REFUSED = '''
>>> from sizechains.steps import CropHeight
>>> CropHeight(1, 1, keep="left")
raises InvalidKeep(value='left')
'''
CHAINS = '''
>>> from sizechains.chains import Chain
>>> from sizechains.sizes import Size
>>> from sizechains.steps import CropWidth, Shrink
>>> chain = Chain(Shrink(4, 2), CropWidth(1, 1))
>>> first = [str(chain(Size(8, 6))), repr(list(chain.walk(Size(8, 6)))), str(chain), len(chain * 3), Shrink(4, 2) in chain]
>>> first + [chain[1] == CropWidth(1, 1), chain + Chain() == chain, Chain.read("shrink 4x2, width 1:1 center") == chain]
['2x2', '[Size(8/3x2), Size(2x2)]', 'shrink 4x2, width 1:1 center', 6, True, True, True, True]
'''
CHAINS_REFUSED = '''
>>> from sizechains.chains import Chain
>>> Chain()[0]
raises NoStep(value=0)
'''
TABLES = '''
>>> from sizechains.chains import Chain
>>> from sizechains.tables import table
>>> table(Chain.read("shrink 4x2"))
((None, (2, 1), 'same', ((1, 1), 'height'), None, ((2, 1), 0)), ((2, 1), None, 'same', ((1, 1), 'height'), None, ((4, 1), -1)))
'''
TABLES_CROPPED = '''
>>> from sizechains.chains import Chain
>>> from sizechains.tables import table
>>> table(Chain.read("height 1:1 center, shrink 5x9"))
((None, (1, 1), (1, 1), ((1, 1), 'width'), None, ((5, 1), 0)), ((1, 1), None, 'same', ((1, 1), 'height'), None, ((5, 1), -1)))
'''
TABLES_TURNED = '''
>>> from sizechains.chains import Chain
>>> from sizechains.tables import table
>>> [table(Chain.read("turn 3")), table(Chain.read("grow 9x9, shrink 3x3"))[0]]
[((None, None, 'inverse', ((1, 1), 'width'), None, None),), (None, (1, 1), 'same', None, ((3, 1), 0), ((3, 1), 0))]
'''
COMPARING = '''
>>> from sizechains.chains import Chain
>>> from sizechains.comparing import commute, difference, is_stable, same_effect
>>> box, square = Chain.read("shrink 4x4"), Chain.read("width 1:1 center")
>>> size = difference(box + square, square + box)
>>> [same_effect(Chain.read("shrink 4x2, shrink 3x3"), Chain.read("shrink 3x2")), (box + square)(size) == (square + box)(size), commute(box, square), is_stable(box), is_stable(Chain.read("turn 1"))]
[True, False, False, True, False]
'''
EXAMPLES = (
    EXACT, EXACT_REFUSED, SIZES, SIZES_REFUSED, STEPS, STEPS_READ, STEPS_REFUSED, CHAINS, CHAINS_REFUSED, TABLES,
    TABLES_CROPPED, TABLES_TURNED, COMPARING)


class DocumentTest(unittest.TestCase):

    def test_examples(self):
        for text in EXAMPLES:
            with self.subTest(text=text):
                found, expected = run_example(text)
                self.assertEqual(found, expected)


if __name__ == "__main__":
    unittest.main()
