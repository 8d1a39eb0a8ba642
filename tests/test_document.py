"""The examples of the document, as they stand there."""

import unittest

from tests.helper import run_example

EXACT = '''
>>> from sizechains.exact import compare, format_fraction, fraction, parse_fraction, product, quotient
>>> [fraction(6, 4), product((3, 2), (4, 1)), quotient((3, 2), (3, 4)), compare((1, 2), (2, 3)), format_fraction((4, 1)), parse_fraction("3/2")]
[(3, 2), (6, 1), (2, 1), -1, '4', (3, 2)]
'''
EXACT_REFUSED = '''
>>> from sizechains.exact import parse_fraction
>>> parse_fraction("6/4")
raises InvalidText(value='6/4')
'''
SIZES = '''
>>> from sizechains.sizes import Size
>>> size = Size(8, (9, 2))
>>> [size.width, size.height, size.ratio, str(size), size * 2 == Size.read("16x9"), Size(4, 3) in size, 3 in size, repr(size.turned())]
[(8, 1), (9, 2), (16, 9), '8x9/2', True, True, False, 'Size(9/2x8)']
'''
SIZES_REFUSED = '''
>>> from sizechains.sizes import Size
>>> Size(8, (6, 4))
raises InvalidFraction(value=(6, 4))
'''


class DocumentTest(unittest.TestCase):

    def test_examples(self):
        for text in (EXACT, EXACT_REFUSED, SIZES, SIZES_REFUSED):
            with self.subTest(text=text):
                found, expected = run_example(text)
                self.assertEqual(found, expected)


if __name__ == "__main__":
    unittest.main()
