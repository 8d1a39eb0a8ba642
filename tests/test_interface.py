"""The names, arguments and files of the interface (promise 8)."""

import inspect
import unittest

from sizechains import exact, sizes

FUNCTIONS = {
    "is_fraction": "(value)",
    "fraction": "(top, bottom=1)",
    "product": "(*fractions)",
    "quotient": "(one, other)",
    "compare": "(one, other)",
    "format_fraction": "(number)",
    "parse_fraction": "(text)",
}


class InterfaceTest(unittest.TestCase):

    def test_functions_of_exact(self):
        for name, arguments in FUNCTIONS.items():
            function = vars(exact)[name]
            self.assertEqual(function.__module__, "sizechains.exact")
            self.assertEqual(str(inspect.signature(function)), arguments, name)

    def test_size(self):
        self.assertEqual(sizes.Size.__module__, "sizechains.sizes")
        self.assertEqual(sizes.Size.__bases__, (object,))
        self.assertEqual(str(inspect.signature(sizes.Size)), "(width, height)")
        self.assertEqual(str(inspect.signature(sizes.Size.read)), "(text)")
        self.assertEqual(str(inspect.signature(sizes.Size.turned)), "(self)")


if __name__ == "__main__":
    unittest.main()
