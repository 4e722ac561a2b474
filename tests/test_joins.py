"""swaplattice/joins.py: point [5], and what [1] says of refusals and of what is handed in."""

import unittest

from swaplattice.errors import BadPairs, BadRow, Unlike
from swaplattice.joins import chain, join, meet
from tests.helpers import (NO_PAIRS, NO_ROWS, all_pairs, leaves_alone, refuses, rows_of, tried_chain, tried_join,
                           tried_meet, turned)

FIRST = list(range(1, 13))
LAST = list(range(12, 0, -1))
ODD_SWAPS = [2, 1, 4, 3, 6, 5, 8, 7, 10, 9, 12, 11]
EVEN_SWAPS = [1, 3, 2, 5, 4, 7, 6, 9, 8, 11, 10, 12]
# The first five turned among themselves; the eighth to the tenth likewise.
LEFT_TURNED = [5, 4, 3, 2, 1, 6, 7, 8, 9, 10, 11, 12]
RIGHT_TURNED = [1, 2, 3, 4, 5, 6, 7, 10, 9, 8, 11, 12]


class Refusals:
    """What join and meet refuse alike; `function` is the one that is tested."""

    def test_bad_row_of_one_of_the_other_and_of_both(self):
        for at, thing in enumerate(NO_ROWS):
            with self.subTest(at=at):
                refuses(self, BadRow, self.function, thing, [2, 1])
                refuses(self, BadRow, self.function, [2, 1], thing)
                refuses(self, BadRow, self.function, thing, thing)

    def test_unlike(self):
        refuses(self, Unlike, self.function, [1, 2], [1, 2, 3])
        refuses(self, Unlike, self.function, [1, 2, 3], [1, 2])
        refuses(self, Unlike, self.function, [1], FIRST)

    def test_bad_row_is_told_ahead_of_unlike(self):
        refuses(self, BadRow, self.function, [1, 2], [1, 2, 2])
        refuses(self, BadRow, self.function, [1, 2, 2], [1, 2])
        refuses(self, BadRow, self.function, [], [1])

    def test_what_is_handed_in_stays(self):
        leaves_alone(self, self.function, [2, 1, 3], [1, 3, 2])
        leaves_alone(self, self.function, [1], [1])
        row = [2, 3, 1]
        told = self.function(row, row)
        self.assertEqual(told, [2, 3, 1])
        self.assertIsNot(told, row)


class TestJoin(Refusals, unittest.TestCase):
    function = staticmethod(join)

    def test_by_hand(self):
        self.assertEqual(join([1], [1]), [1])
        self.assertEqual(join([1, 2], [2, 1]), [2, 1])
        self.assertEqual(join([2, 1, 3], [1, 3, 2]), [3, 2, 1])
        self.assertEqual(join([2, 3, 1], [2, 1, 3]), [2, 3, 1])
        self.assertEqual(join([2, 1, 3, 4], [1, 2, 4, 3]), [2, 1, 4, 3])
        self.assertEqual(join([2, 1, 3, 4], [1, 3, 2, 4]), [3, 2, 1, 4])
        self.assertEqual(join([2, 1, 4, 3], [1, 3, 2, 4]), [4, 3, 2, 1])

    def test_all_rows_of_a_few_things(self):
        for many in range(1, 5):
            for one in rows_of(many):
                for other in rows_of(many):
                    self.assertEqual(join(one, other), tried_join(one, other))

    def test_twelve_things(self):
        self.assertEqual(join(ODD_SWAPS, EVEN_SWAPS), LAST)
        self.assertEqual(join(FIRST, ODD_SWAPS), ODD_SWAPS)
        self.assertEqual(join(ODD_SWAPS, LAST), LAST)
        self.assertEqual(join(LEFT_TURNED, RIGHT_TURNED), [5, 4, 3, 2, 1, 6, 7, 10, 9, 8, 11, 12])
        # 12 ahead of all, 1 behind all: just (1, 12) comes of both.
        self.assertEqual(join([12] + FIRST[:11], FIRST[1:] + [1]), [12] + FIRST[1:11] + [1])


class TestMeet(Refusals, unittest.TestCase):
    function = staticmethod(meet)

    def test_by_hand(self):
        self.assertEqual(meet([1], [1]), [1])
        self.assertEqual(meet([1, 2], [2, 1]), [1, 2])
        self.assertEqual(meet([2, 3, 1], [3, 1, 2]), [1, 2, 3])
        self.assertEqual(meet([2, 3, 1], [2, 1, 3]), [2, 1, 3])
        self.assertEqual(meet([3, 2, 1], [3, 1, 2]), [3, 1, 2])
        self.assertEqual(meet([3, 2, 1, 4], [2, 1, 4, 3]), [2, 1, 3, 4])

    def test_all_rows_of_a_few_things(self):
        for many in range(1, 5):
            for one in rows_of(many):
                for other in rows_of(many):
                    self.assertEqual(meet(one, other), tried_meet(one, other))

    def test_twelve_things(self):
        self.assertEqual(meet(ODD_SWAPS, EVEN_SWAPS), FIRST)
        self.assertEqual(meet(ODD_SWAPS, LAST), ODD_SWAPS)
        self.assertEqual(meet(FIRST, ODD_SWAPS), FIRST)
        self.assertEqual(meet(LEFT_TURNED, ODD_SWAPS), [2, 1, 4, 3] + FIRST[4:])
        # (1, 12) is turned in both rows, but numbers rise from 1 by 2 to 12 unturned.
        self.assertEqual(meet([12] + FIRST[:11], FIRST[1:] + [1]), FIRST)


class TestChain(unittest.TestCase):
    def test_by_hand(self):
        self.assertEqual(chain([2, 1], [1, 2], (1, 2)), [1, 2])
        self.assertEqual(chain([1, 2], [2, 1], (1, 2)), [1, 2])
        self.assertEqual(chain([2, 1, 3], [1, 3, 2], (1, 3)), [1, 2, 3])
        self.assertEqual(chain([2, 1, 3], [1, 3, 2], (1, 2)), [1, 2])
        self.assertEqual(chain([2, 1, 4, 3], [1, 3, 2, 4], (1, 4)), [1, 2, 3, 4])
        self.assertEqual(chain([2, 1, 4, 3], [1, 3, 2, 4], (2, 4)), [2, 3, 4])

    def test_none_where_it_is_not_turned(self):
        self.assertIsNone(chain([1, 2], [1, 2], (1, 2)))
        self.assertIsNone(chain([2, 1, 3], [2, 1, 3], (1, 3)))
        self.assertIsNone(chain([2, 1, 3, 4], [1, 2, 4, 3], (1, 4)))
        self.assertIsNone(chain([2, 1, 3, 4], [1, 2, 4, 3], (2, 3)))

    def test_as_few_numbers_as_can_be(self):
        self.assertEqual(chain([3, 2, 1], [3, 2, 1], (1, 3)), [1, 3])
        # [1, 2, 3, 4] leads there too, and is less, but longer.
        self.assertEqual(chain([3, 2, 1, 4], [1, 2, 4, 3], (1, 4)), [1, 3, 4])

    def test_of_such_the_least(self):
        # [1, 3, 4] is as short.
        self.assertEqual(chain([2, 3, 1, 4], [1, 4, 2, 3], (1, 4)), [1, 2, 4])

    def test_all_pairs_of_all_rows_of_a_few_things(self):
        for many in range(1, 5):
            for one in rows_of(many):
                for other in rows_of(many):
                    joined = turned(tried_join(one, other))
                    for pair in all_pairs(many):
                        told = chain(one, other, pair)
                        self.assertEqual(told, tried_chain(one, other, pair))
                        self.assertEqual(told is not None, pair in joined)

    def test_twelve_things(self):
        self.assertEqual(chain(ODD_SWAPS, EVEN_SWAPS, (1, 12)), FIRST)
        self.assertEqual(chain(ODD_SWAPS, EVEN_SWAPS, (4, 9)), [4, 5, 6, 7, 8, 9])
        self.assertEqual(chain(LAST, ODD_SWAPS, (1, 12)), [1, 12])
        self.assertEqual(chain([12] + FIRST[:11], FIRST[1:] + [1], (1, 12)), [1, 12])
        self.assertIsNone(chain([12] + FIRST[:11], FIRST[1:] + [1], (2, 11)))
        self.assertEqual(chain(LEFT_TURNED, ODD_SWAPS, (1, 6)), [1, 5, 6])
        self.assertIsNone(chain(LEFT_TURNED, ODD_SWAPS, (1, 7)))
        self.assertIsNone(chain(LEFT_TURNED, RIGHT_TURNED, (5, 8)))

    def test_six_things_by_trying_all(self):
        rows = rows_of(6)
        for one in rows[5::97]:
            for other in rows[3::89]:
                for pair in all_pairs(6):
                    self.assertEqual(chain(one, other, pair), tried_chain(one, other, pair))

    def test_bad_row_of_one_of_the_other_and_of_both(self):
        for at, thing in enumerate(NO_ROWS):
            with self.subTest(at=at):
                refuses(self, BadRow, chain, thing, [2, 1], (1, 2))
                refuses(self, BadRow, chain, [2, 1], thing, (1, 2))
                refuses(self, BadRow, chain, thing, thing, (1, 2))

    def test_unlike(self):
        refuses(self, Unlike, chain, [1, 2], [1, 2, 3], (1, 2))
        refuses(self, Unlike, chain, [1, 2, 3], [1, 2], (1, 2))

    def test_what_is_no_pair(self):
        for at, pair in enumerate(NO_PAIRS):
            with self.subTest(at=at):
                refuses(self, BadPairs, chain, [4, 3, 2, 1], [1, 2, 3, 4], pair)
                refuses(self, BadPairs, chain, [1, 2, 3, 4], [1, 2, 3, 4], pair)
        refuses(self, BadPairs, chain, [1], [1], (1, 2))
        refuses(self, BadPairs, chain, LAST, FIRST, (1, 13))

    def test_which_refusal_is_told_first(self):
        refuses(self, BadRow, chain, [1, 2], [1, 2, 2], (1, 2))
        refuses(self, BadRow, chain, [1, 2], [1, 2, 2], (2, 1))
        refuses(self, BadRow, chain, [1, 1], [1, 2], None)
        refuses(self, Unlike, chain, [1, 2], [1, 2, 3], (2, 1))
        refuses(self, Unlike, chain, [1, 2, 3], [1, 2], None)

    def test_what_is_handed_in_stays(self):
        leaves_alone(self, chain, [2, 1, 3], [1, 3, 2], (1, 3))
        leaves_alone(self, chain, [2, 1, 3], [2, 1, 3], (1, 3))


if __name__ == "__main__":
    unittest.main()
