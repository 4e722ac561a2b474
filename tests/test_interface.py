"""The interface's first paragraph: each name is defined in its file, with the arguments that the document lists."""

import importlib
import inspect
import unittest

LISTED = {
    "swaplattice.errors": {"BadMove": ["at"]},
    "swaplattice.rows": {
        "is_row": ["thing"], "first_row": ["many"], "turned_pairs": ["row"], "row_with": ["pairs", "many"],
        "from_behind": ["row"], "renamed": ["row"], "is_below": ["one", "other"],
    },
    "swaplattice.joins": {"join": ["one", "other"], "meet": ["one", "other"], "chain": ["one", "other", "pair"]},
}


class TestInterface(unittest.TestCase):
    def test_names_and_arguments(self):
        for module, names in LISTED.items():
            for name, arguments in names.items():
                with self.subTest(module=module, name=name):
                    found = getattr(importlib.import_module(module), name)
                    self.assertEqual(found.__module__, module)
                    self.assertEqual(list(inspect.signature(found).parameters), arguments)


if __name__ == "__main__":
    unittest.main()
