"""The names, arguments and files of the interface."""

import inspect
import unittest

from sizechains import (
    certificates, chains, checker, comparing, console, exact, gallery, promises, records, results, sizes, steps, tables,
    views)

FUNCTIONS = {
    exact: {
        "is_fraction": "(value)",
        "fraction": "(top, bottom=1)",
        "product": "(*fractions)",
        "quotient": "(one, other)",
        "compare": "(one, other)",
        "format_fraction": "(number)",
        "parse_fraction": "(text)",
    },
    tables: {"table": "(chain)", "row_of": "(chain, size)", "result_by": "(row, size)"},
    comparing: {
        "same_effect": "(chain, other)",
        "difference": "(chain, other)",
        "is_stable": "(chain)",
        "commute": "(chain, other)",
    },
    promises: {
        "always_fits": "(chain, width, height)",
        "misfit": "(chain, width, height)",
        "always_covers": "(chain, width, height)",
        "gap": "(chain, width, height)",
        "limits_of": "(chain)",
    },
    results: {"has_result": "(chain, size)", "source": "(chain, size)", "count_sources": "(chain, size)"},
    views: {
        "view": "(chain, size)",
        "same_pictures": "(chain, other)",
        "picture_difference": "(chain, other)",
    },
    records: {
        "explains": "(step, records)",
        "find_box": "(kind, records, *, cover=False)",
        "barring": "(kind, records, *, cover=False)",
    },
    checker: {"check": "(claim, paper)"},
    certificates: {
        "effect_certificate": "(chain, other)",
        "fit_certificate": "(chain, size)",
        "result_certificate": "(chain, size)",
        "box_certificate": "(kind, records, *, cover=False)",
    },
}
GALLERY = {
    "add": "(self, name, size)",
    "remove": "(self, name)",
    "change": "(self, chain, *names)",
    "do_all": "(self, *deeds, watch=None)",
    "undo": "(self, *, times=1)",
    "size_of": "(self, name)",
    "fitting": "(self, size)",
    "listing": "(self)",
}
STEPS = {
    "Shrink": "(width, height, *, cover=False)",
    "Grow": "(width, height, *, cover=False)",
    "CropWidth": "(width, height, *, keep='center')",
    "CropHeight": "(width, height, *, keep='center')",
    "Turn": "(times=1)",
    "Landscape": "()",
    "Portrait": "()",
}


class InterfaceTest(unittest.TestCase):

    def test_functions(self):
        for module, functions in FUNCTIONS.items():
            for name, arguments in functions.items():
                function = vars(module)[name]
                self.assertEqual(function.__module__, module.__name__)
                self.assertEqual(str(inspect.signature(function)), arguments, name)

    def test_size(self):
        self.assertEqual(sizes.Size.__module__, "sizechains.sizes")
        self.assertEqual(sizes.Size.__bases__, (object,))
        self.assertEqual(str(inspect.signature(sizes.Size)), "(width, height)")
        self.assertEqual(str(inspect.signature(sizes.Size.read)), "(text)")
        self.assertEqual(str(inspect.signature(sizes.Size.turned)), "(self)")

    def test_steps(self):
        for name in ("Step", "Scaling", "Crop"):
            self.assertEqual(vars(steps)[name].__module__, "sizechains.steps")
        for name, arguments in STEPS.items():
            kind = vars(steps)[name]
            self.assertEqual(kind.__module__, "sizechains.steps")
            self.assertEqual(str(inspect.signature(kind)), arguments)
            self.assertEqual(str(inspect.signature(vars(kind)["apply"])), "(self, size)")
        self.assertEqual(str(inspect.signature(steps.Step.read)), "(text)")

    def test_chain(self):
        self.assertEqual(chains.Chain.__module__, "sizechains.chains")
        self.assertEqual(chains.Chain.__bases__, (object,))
        self.assertEqual(str(inspect.signature(chains.Chain)), "(*steps)")
        self.assertEqual(str(inspect.signature(chains.Chain.read)), "(text)")
        self.assertEqual(str(inspect.signature(chains.Chain.walk)), "(self, size)")
        self.assertEqual(str(inspect.signature(chains.Chain())), "(size)")

    def test_gallery(self):
        self.assertEqual(gallery.Gallery.__module__, "sizechains.gallery")
        self.assertEqual(str(inspect.signature(gallery.Gallery)), "(**pictures)")
        for name, arguments in GALLERY.items():
            self.assertEqual(str(inspect.signature(vars(gallery.Gallery)[name])), arguments)

    def test_console(self):
        self.assertEqual(console.Console.__module__, "sizechains.console")
        self.assertEqual(str(inspect.signature(console.Console)), "()")
        self.assertEqual(str(inspect.signature(console.Console.say)), "(self, line)")


if __name__ == "__main__":
    unittest.main()
