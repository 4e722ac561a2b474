"""swaplattice/rows.py: points [2], [3] and [4], and what [1] says of refusals and of what is handed in."""

import unittest
from itertools import permutations

from swaplattice.errors import BadMany, BadPairs, BadRow, Unlike
from swaplattice.rows import first_row, from_behind, is_below, is_row, renamed, row_with, turned_pairs
from tests.helpers import NO_LISTS, NO_MANY, NO_PAIRS, NO_ROWS, all_pairs, leaves_alone, refuses, rows_of, turned

MIXED = [7, 12, 1, 9, 3, 11, 2, 10, 5, 8, 4, 6]


class TestIsRow(unittest.TestCase):
    def test_rows(self):
        for row in ([1], [1, 2], [2, 1], [2, 3, 1], list(range(1, 13)), list(range(12, 0, -1)), MIXED):
            with self.subTest(row=row):
                self.assertIs(is_row(row), True)

    def test_all_rows_of_a_few_things(self):
        for many in range(1, 6):
            for row in rows_of(many):
                self.assertIs(is_row(row), True)

    def test_no_rows(self):
        for at, thing in enumerate(NO_ROWS):
            with self.subTest(at=at):
                self.assertIs(is_row(thing), False)

    def test_thirteen_things_are_too_many(self):
        self.assertIs(is_row(list(range(1, 14))), False)
        self.assertIs(is_row(list(range(13, 0, -1))), False)

    def test_what_is_handed_in_stays(self):
        leaves_alone(self, is_row, [3, 1, 2])
        leaves_alone(self, is_row, [3, "1", 2])


class TestFirstRow(unittest.TestCase):
    def test_rising(self):
        self.assertEqual(first_row(1), [1])
        self.assertEqual(first_row(2), [1, 2])
        self.assertEqual(first_row(5), [1, 2, 3, 4, 5])
        self.assertEqual(first_row(12), [1, 2, 3, 4, 5, 6, 7, 8, 9, 10, 11, 12])
        self.assertIsInstance(first_row(12), list)

    def test_no_many(self):
        for at, many in enumerate(NO_MANY):
            with self.subTest(at=at):
                refuses(self, BadMany, first_row, many)

    def test_told_is_the_askers_own(self):
        leaves_alone(self, first_row, 1)
        leaves_alone(self, first_row, 12)


class TestTurnedPairs(unittest.TestCase):
    def test_by_hand(self):
        self.assertEqual(turned_pairs([1]), [])
        self.assertEqual(turned_pairs([2, 1]), [(1, 2)])
        self.assertEqual(turned_pairs([3, 1, 2]), [(1, 3), (2, 3)])
        self.assertEqual(turned_pairs([2, 3, 1]), [(1, 2), (1, 3)])
        self.assertEqual(turned_pairs([4, 2, 3, 1]), [(1, 2), (1, 3), (1, 4), (2, 4), (3, 4)])
        self.assertEqual(turned_pairs([2, 1, 4, 5, 3]), [(1, 2), (3, 4), (3, 5)])

    def test_none_in_the_first_row(self):
        for many in range(1, 13):
            self.assertEqual(turned_pairs(list(range(1, many + 1))), [])

    def test_all_in_the_row_from_behind(self):
        for many in range(1, 13):
            self.assertEqual(turned_pairs(list(range(many, 0, -1))), all_pairs(many))

    def test_rising_list_of_tuples(self):
        told = turned_pairs(MIXED)
        self.assertIsInstance(told, list)
        self.assertEqual(told, sorted(turned(MIXED)))
        for pair in told:
            self.assertIs(pair.__class__, tuple)

    def test_all_rows_of_a_few_things(self):
        for many in range(1, 6):
            for row in rows_of(many):
                self.assertEqual(turned_pairs(row), sorted(turned(row)))

    def test_no_rows(self):
        for at, row in enumerate(NO_ROWS):
            with self.subTest(at=at):
                refuses(self, BadRow, turned_pairs, row)

    def test_what_is_handed_in_stays(self):
        leaves_alone(self, turned_pairs, [3, 1, 2])
        leaves_alone(self, turned_pairs, MIXED)


class TestRowWith(unittest.TestCase):
    def test_by_hand(self):
        self.assertEqual(row_with([], 1), [1])
        self.assertEqual(row_with([], 4), [1, 2, 3, 4])
        self.assertEqual(row_with([(1, 2)], 2), [2, 1])
        self.assertEqual(row_with([(2, 3), (1, 3)], 3), [3, 1, 2])
        self.assertEqual(row_with([(3, 5), (1, 2), (3, 4)], 5), [2, 1, 4, 5, 3])

    def test_back_from_the_turned_pairs(self):
        for many in range(1, 6):
            for row in rows_of(many):
                pairs = sorted(turned(row))
                self.assertEqual(row_with(pairs, many), row)
                self.assertEqual(row_with(pairs[::-1], many), row)
                self.assertEqual(row_with(pairs[1::2] + pairs[::2], many), row)

    def test_any_order(self):
        for pairs in permutations(sorted(turned([4, 2, 3, 1]))):
            self.assertEqual(row_with(list(pairs), 4), [4, 2, 3, 1])

    def test_twelve_things(self):
        self.assertEqual(row_with(sorted(turned(MIXED)), 12), MIXED)
        self.assertEqual(row_with(all_pairs(12), 12), list(range(12, 0, -1)))
        self.assertEqual(row_with([], 12), list(range(1, 13)))

    def test_pairs_of_no_row(self):
        for pairs in ([(1, 3)], [(1, 2), (2, 3)]):
            refuses(self, BadPairs, row_with, pairs, 3)
        refuses(self, BadPairs, row_with, [(1, 12)], 12)

    def test_every_set_of_pairs(self):
        for many in range(1, 5):
            rows = {tuple(sorted(turned(row))): row for row in rows_of(many)}
            pairs = all_pairs(many)
            for some in range(2 ** len(pairs)):
                taken = [pair for at, pair in enumerate(pairs) if some >> at & 1]
                if tuple(taken) in rows:
                    self.assertEqual(row_with(taken, many), rows[tuple(taken)])
                else:
                    refuses(self, BadPairs, row_with, taken, many)

    def test_a_pair_twice(self):
        refuses(self, BadPairs, row_with, [(1, 2), (1, 2)], 2)
        refuses(self, BadPairs, row_with, [(2, 3), (1, 3), (2, 3)], 3)
        refuses(self, BadPairs, row_with, [(1, 2)] * 1000, 12)

    def test_what_is_no_pair(self):
        for at, pair in enumerate(NO_PAIRS):
            with self.subTest(at=at):
                refuses(self, BadPairs, row_with, [pair], 4)
                refuses(self, BadPairs, row_with, [(1, 2), pair], 4)
                refuses(self, BadPairs, row_with, [pair, (3, 4)], 4)

    def test_a_number_beyond_the_row(self):
        self.assertEqual(row_with([(2, 3)], 3), [1, 3, 2])
        refuses(self, BadPairs, row_with, [(2, 3)], 2)
        refuses(self, BadPairs, row_with, [(1, 2)], 1)

    def test_what_is_no_list(self):
        for at, pairs in enumerate(NO_LISTS):
            with self.subTest(at=at):
                refuses(self, BadPairs, row_with, pairs, 4)
        refuses(self, BadPairs, row_with, ((1, 2),), 2)
        refuses(self, BadPairs, row_with, {(1, 2)}, 2)
        refuses(self, BadPairs, row_with, {(1, 2): True}, 2)

    def test_no_many(self):
        for at, many in enumerate(NO_MANY):
            with self.subTest(at=at):
                refuses(self, BadMany, row_with, [], many)

    def test_bad_many_is_told_first(self):
        for at, many in enumerate(NO_MANY):
            with self.subTest(at=at):
                refuses(self, BadMany, row_with, [(1, 3)], many)
                refuses(self, BadMany, row_with, [(2, 1), [1, 2]], many)
                refuses(self, BadMany, row_with, None, many)

    def test_what_is_handed_in_stays(self):
        leaves_alone(self, row_with, [(2, 3), (1, 3)], 3)
        leaves_alone(self, row_with, [], 3)


class TestFromBehind(unittest.TestCase):
    def test_by_hand(self):
        self.assertEqual(from_behind([1]), [1])
        self.assertEqual(from_behind([2, 3, 1]), [1, 3, 2])
        self.assertEqual(from_behind([3, 1, 4, 2]), [2, 4, 1, 3])
        self.assertEqual(from_behind(list(range(1, 13))), list(range(12, 0, -1)))

    def test_twice_gives_the_row_again(self):
        for many in range(1, 6):
            for row in rows_of(many):
                self.assertEqual(from_behind(from_behind(row)), row)
        self.assertEqual(from_behind(from_behind(MIXED)), MIXED)

    def test_turns_just_the_other_pairs(self):
        for row in rows_of(4):
            self.assertEqual(turned(from_behind(row)), set(all_pairs(4)) - turned(row))

    def test_no_rows(self):
        for at, row in enumerate(NO_ROWS):
            with self.subTest(at=at):
                refuses(self, BadRow, from_behind, row)

    def test_what_is_handed_in_stays(self):
        leaves_alone(self, from_behind, [1])
        leaves_alone(self, from_behind, [2, 3, 1])


class TestRenamed(unittest.TestCase):
    def test_by_hand(self):
        self.assertEqual(renamed([1]), [1])
        self.assertEqual(renamed([1, 2]), [2, 1])
        self.assertEqual(renamed([2, 3, 1]), [2, 1, 3])
        self.assertEqual(renamed([3, 1, 4, 2]), [2, 4, 1, 3])
        self.assertEqual(renamed([1, 4, 3, 2]), [4, 1, 2, 3])
        self.assertEqual(renamed(list(range(1, 13))), list(range(12, 0, -1)))

    def test_twice_gives_the_row_again(self):
        for many in range(1, 6):
            for row in rows_of(many):
                self.assertEqual(renamed(renamed(row)), row)
        self.assertEqual(renamed(renamed(MIXED)), MIXED)

    def test_no_rows(self):
        for at, row in enumerate(NO_ROWS):
            with self.subTest(at=at):
                refuses(self, BadRow, renamed, row)

    def test_what_is_handed_in_stays(self):
        leaves_alone(self, renamed, [1])
        leaves_alone(self, renamed, [2, 3, 1])


class TestIsBelow(unittest.TestCase):
    def test_by_hand(self):
        self.assertIs(is_below([2, 1, 3], [2, 3, 1]), True)
        self.assertIs(is_below([2, 3, 1], [2, 1, 3]), False)
        self.assertIs(is_below([2, 1, 3], [3, 1, 2]), False)
        self.assertIs(is_below([3, 1, 2], [2, 1, 3]), False)
        self.assertIs(is_below([1, 3, 2], [2, 3, 1]), False)
        self.assertIs(is_below([1, 3, 2], [3, 1, 2]), True)

    def test_a_row_is_below_itself(self):
        for many in range(1, 6):
            for row in rows_of(many):
                self.assertIs(is_below(row, list(row)), True)
                self.assertIs(is_below(row, row), True)

    def test_all_rows_of_a_few_things(self):
        for many in range(1, 5):
            for one in rows_of(many):
                for other in rows_of(many):
                    self.assertIs(is_below(one, other), turned(one) <= turned(other))

    def test_twelve_things(self):
        first, last = list(range(1, 13)), list(range(12, 0, -1))
        for row in (first, MIXED, last):
            self.assertIs(is_below(first, row), True)
            self.assertIs(is_below(row, last), True)
        self.assertIs(is_below(MIXED, first), False)
        self.assertIs(is_below(last, MIXED), False)

    def test_bad_row_of_one_of_the_other_and_of_both(self):
        for at, thing in enumerate(NO_ROWS):
            with self.subTest(at=at):
                refuses(self, BadRow, is_below, thing, [2, 1])
                refuses(self, BadRow, is_below, [2, 1], thing)
                refuses(self, BadRow, is_below, thing, thing)

    def test_unlike(self):
        refuses(self, Unlike, is_below, [1, 2], [1, 2, 3])
        refuses(self, Unlike, is_below, [1, 2, 3], [1, 2])
        refuses(self, Unlike, is_below, [1], MIXED)

    def test_bad_row_is_told_ahead_of_unlike(self):
        refuses(self, BadRow, is_below, [1, 2], [1, 2, 2])
        refuses(self, BadRow, is_below, [1, 2, 2], [1, 2])
        refuses(self, BadRow, is_below, [1], [])

    def test_what_is_handed_in_stays(self):
        leaves_alone(self, is_below, [2, 1, 3], [2, 3, 1])
        leaves_alone(self, is_below, [2, 3, 1], [2, 1, 3])


if __name__ == "__main__":
    unittest.main()
