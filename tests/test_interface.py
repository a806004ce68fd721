"""The names and arguments that the document's interface tells."""

import importlib
import inspect
import unittest

TOLD = {
    "wishes": {
        "wishes_of": "(rows)",
        "things_in": "(wishes)",
        "owns_of": "(wishes, things)",
        "order_of": "(wishes, order=None)",
        "likes": "(wishes, hand, one, other)",
    },
    "texts": {"rows_text": "(wishes, owns)", "rows_read": "(text)"},
    "rings": {"rounds": "(wishes, owns, order=None)", "by_rings": "(wishes, owns, order=None)"},
    "asking": {"asked": "(wishes, owns, order=None)", "by_asking": "(wishes, owns, order=None)"},
    "groups": {"goes": "(wishes, owns, dealing, ring)", "goers": "(wishes, owns, dealing)"},
    "bettering": {"betterment": "(wishes, dealing)", "bettered": "(wishes, dealing, way)"},
    "orders": {"by_order": "(wishes, order=None)", "order_behind": "(wishes, dealing)"},
    "fractions": {
        "fraction": "(top, bottom)",
        "plus": "(a, b)",
        "minus": "(a, b)",
        "times": "(a, b)",
        "less": "(a, b)",
    },
    "lots": {"lot": "(wishes)", "lot_of_ownings": "(wishes)"},
    "eating": {
        "eaten": "(wishes)",
        "sums_along": "(wishes, hand, shares)",
        "no_less": "(wishes, hand, shares, others)",
    },
    "tables": {
        "table_of": "(rows)",
        "heights": "(wishes, table)",
        "share_ring": "(wishes, table)",
        "can_hand": "(table, ring)",
        "handed": "(table, ring, part)",
    },
    "parting": {"mixed": "(parts)", "parted": "(table)"},
}

# Of each class what it is made of, and its methods.
TOLD_CLASSES = {
    "rules": {
        "ByRings": ("(owns, order=None)", {"shares": "(wishes)", "sure": "(wishes)"}),
        "ByOrder": ("(order=None)", {"shares": "(wishes)", "sure": "(wishes)"}),
        "ByLot": ("()", {"shares": "(wishes)", "sure": "(wishes)"}),
        "ByEating": ("()", {"shares": "(wishes)", "sure": "(wishes)"}),
    },
    "papers": {
        "Goes": ("(owns, ring)", {"shows": "(wishes, told)"}),
        "Ordered": ("(order)", {"shows": "(wishes, told)"}),
        "Betters": ("(way)", {"shows": "(wishes, told)"}),
        "Rising": ("(heights)", {"shows": "(wishes, told)"}),
        "Handing": ("(ring, part)", {"shows": "(wishes, told)"}),
        "Parted": ("(parts)", {"shows": "(wishes, told)"}),
    },
    "desk": {"Desk": ("()", {"tell": "(line)"})},
}

BASES = {"rules": "Rule", "papers": "Paper"}


class InterfaceTest(unittest.TestCase):
    def test_functions_and_their_arguments(self):
        for module, functions in TOLD.items():
            held = importlib.import_module("ringtrade." + module)
            for name, arguments in functions.items():
                with self.subTest(module=module, name=name):
                    self.assertEqual(str(inspect.signature(getattr(held, name))), arguments)

    def test_classes_what_they_are_made_of_and_their_methods(self):
        for module, classes in TOLD_CLASSES.items():
            held = importlib.import_module("ringtrade." + module)
            for name, (made_of, methods) in classes.items():
                with self.subTest(module=module, name=name):
                    kind = getattr(held, name)
                    self.assertTrue(inspect.isclass(kind))
                    self.assertEqual(str(inspect.signature(kind)), made_of)
                    for method, arguments in methods.items():
                        told = str(inspect.signature(getattr(kind, method)))
                        self.assertEqual(told, arguments.replace("(", "(self, ", 1))

    def test_bases(self):
        for module, base in BASES.items():
            held = importlib.import_module("ringtrade." + module)
            for name in TOLD_CLASSES[module]:
                self.assertEqual(getattr(held, name).__bases__, (getattr(held, base),))


if __name__ == "__main__":
    unittest.main()
