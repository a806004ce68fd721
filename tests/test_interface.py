"""The names and arguments that the document's interface tells."""

import importlib
import inspect
import unittest

TOLD = {
    "wishes": {
        "wishes_of": "(rows)",
        "things_in": "(wishes)",
        "owns_of": "(wishes, things)",
        "order_of": "(wishes, order=None)",
        "likes": "(wishes, hand, one, other)",
    },
    "texts": {"rows_text": "(wishes, owns)", "rows_read": "(text)"},
    "rings": {"rounds": "(wishes, owns, order=None)", "by_rings": "(wishes, owns, order=None)"},
    "asking": {"asked": "(wishes, owns, order=None)", "by_asking": "(wishes, owns, order=None)"},
    "groups": {"goes": "(wishes, owns, dealing, ring)", "goers": "(wishes, owns, dealing)"},
    "bettering": {"betterment": "(wishes, dealing)", "bettered": "(wishes, dealing, way)"},
    "orders": {"by_order": "(wishes, order=None)", "order_behind": "(wishes, dealing)"},
}


class InterfaceTest(unittest.TestCase):
    def test_functions_and_their_arguments(self):
        for module, functions in TOLD.items():
            held = importlib.import_module("ringtrade." + module)
            for name, arguments in functions.items():
                with self.subTest(module=module, name=name):
                    self.assertEqual(str(inspect.signature(getattr(held, name))), arguments)


if __name__ == "__main__":
    unittest.main()
