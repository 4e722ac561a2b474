"""swaplattice/errors.py."""

import unittest

from swaplattice import errors

NAMES = ["BadMany", "BadRow", "Unlike", "BadPairs", "BadOrder", "BadPlace", "BadWord", "BadMove", "NotShort", "NotAlike",
         "NothingDone", "BadNote"]


def made(name):
    kind = getattr(errors, name)
    return kind(3) if name == "BadMove" else kind()


class TestErrors(unittest.TestCase):
    def test_swap_error_stands_under_value_error(self):
        self.assertEqual(errors.SwapError.__bases__, (ValueError,))
        self.assertEqual(errors.SwapError.__module__, "swaplattice.errors")

    def test_each_stands_straight_under_swap_error(self):
        for name in NAMES:
            with self.subTest(name=name):
                kind = getattr(errors, name)
                self.assertEqual(kind.__bases__, (errors.SwapError,))
                self.assertEqual(kind.__name__, name)
                self.assertEqual(kind.__module__, "swaplattice.errors")

    def test_each_is_caught_as_swap_error_and_as_value_error(self):
        for name in NAMES:
            with self.subTest(name=name):
                with self.assertRaises(errors.SwapError):
                    raise made(name)
                with self.assertRaises(ValueError):
                    raise made(name)

    def test_none_is_another_one(self):
        for name in NAMES:
            for other in NAMES:
                if name != other:
                    with self.subTest(name=name, other=other):
                        self.assertNotIsInstance(made(name), getattr(errors, other))

    def test_bad_move_tells_where(self):
        self.assertEqual(errors.BadMove(3).at, 3)
        self.assertEqual(errors.BadMove(0).at, 0)
        self.assertEqual(errors.BadMove(at=7).at, 7)


if __name__ == "__main__":
    unittest.main()
