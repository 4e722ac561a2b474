"""The interface's first paragraph: each name is defined in its file, with the arguments that the document lists."""

import importlib
import inspect
import unittest

LISTED = {
    "swaplattice.errors": {
        "SwapError": None, "BadMany": None, "BadRow": None, "Unlike": None, "BadPairs": None, "BadOrder": None,
        "BadPlace": None, "BadWord": None, "BadMove": ["at"], "NotShort": None, "NotAlike": None, "NothingDone": None,
        "BadNote": None,
    },
    "swaplattice.rows": {
        "is_row": ["thing"], "first_row": ["many"], "turned_pairs": ["row"], "row_with": ["pairs", "many"],
        "from_behind": ["row"], "renamed": ["row"], "is_below": ["one", "other"],
    },
    "swaplattice.joins": {"join": ["one", "other"], "meet": ["one", "other"], "chain": ["one", "other", "pair"]},
    "swaplattice.ways": {
        "swapped": ["row", "place"], "ups": ["row"], "downs": ["row"], "walked": ["row", "places"],
        "apart": ["one", "other"], "way_up": ["one", "other"],
    },
    "swaplattice.words": {
        "row_of": ["word", "many"], "is_short": ["word", "many"], "moved": ["word", "moves", "many"],
        "shortened": ["word", "many"], "led": ["word", "other", "many"],
    },
    "swaplattice.trail": {"Trail": ["many"]},
    "swaplattice.notes": {
        "row_text": ["row"], "read_row": ["text"], "word_text": ["word", "many"], "read_word": ["text", "many"],
    },
}
METHODS = {"swap": ["place"], "back": [], "row": [], "places": [], "is_short": []}


class TestInterface(unittest.TestCase):
    def test_names_and_arguments(self):
        for module, names in LISTED.items():
            for name, arguments in names.items():
                with self.subTest(module=module, name=name):
                    found = getattr(importlib.import_module(module), name)
                    self.assertEqual(found.__module__, module)
                    self.assertEqual(found.__qualname__, name)
                    if arguments is not None:
                        self.assertEqual(list(inspect.signature(found).parameters), arguments)

    def test_methods_are_defined_in_the_class_itself(self):
        kind = importlib.import_module("swaplattice.trail").Trail
        for name, arguments in METHODS.items():
            with self.subTest(name=name):
                self.assertIn(name, vars(kind))
                self.assertEqual(vars(kind)[name].__qualname__, f"Trail.{name}")
                self.assertEqual(list(inspect.signature(getattr(kind(3), name)).parameters), arguments)


if __name__ == "__main__":
    unittest.main()
