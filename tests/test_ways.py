"""swaplattice/ways.py: point [6], and what [1] says of refusals and of what is handed in."""

import unittest

from swaplattice.errors import BadOrder, BadPlace, BadRow, Unlike
from swaplattice.ways import apart, downs, swapped, ups, walked, way_up
from tests.helpers import (HUGE, NO_PLACE_LISTS, NO_PLACES, NO_ROWS, all_pairs, leaves_alone, mixed, mixed_row, refuses,
                           rows_of, swap, turned, ways_up)

FIRST = list(range(1, 13))
LAST = list(range(12, 0, -1))
MIXED = [7, 12, 1, 9, 3, 11, 2, 10, 5, 8, 4, 6]


class TestSwapped(unittest.TestCase):
    def test_by_hand(self):
        self.assertEqual(swapped([1, 2], 1), [2, 1])
        self.assertEqual(swapped([3, 1, 2], 1), [1, 3, 2])
        self.assertEqual(swapped([3, 1, 2], 2), [3, 2, 1])
        self.assertEqual(swapped([2, 4, 1, 3], 3), [2, 4, 3, 1])
        self.assertEqual(swapped(FIRST, 11), [1, 2, 3, 4, 5, 6, 7, 8, 9, 10, 12, 11])
        self.assertEqual(swapped(FIRST, 1), [2, 1, 3, 4, 5, 6, 7, 8, 9, 10, 11, 12])

    def test_all_rows_of_a_few_things(self):
        for many in range(1, 6):
            for row in rows_of(many):
                for place in range(1, many):
                    told = swapped(row, place)
                    self.assertEqual(told, swap(row, place))
                    self.assertEqual(len(turned(told) ^ turned(row)), 1)

    def test_done_twice_is_none(self):
        for many in range(1, 6):
            for row in rows_of(many):
                for place in range(1, many):
                    self.assertEqual(swapped(swapped(row, place), place), row)
        for place in range(1, 12):
            self.assertEqual(swapped(swapped(MIXED, place), place), MIXED)

    def test_a_row_of_one_thing_has_no_place(self):
        for place in (0, 1, -1, 2):
            refuses(self, BadPlace, swapped, [1], place)

    def test_what_is_no_place(self):
        for at, place in enumerate(NO_PLACES):
            with self.subTest(at=at):
                refuses(self, BadPlace, swapped, [2, 4, 1, 3], place)
        for many in range(1, 13):
            for place in (0, -1, many, many + 1, HUGE, True, False):
                refuses(self, BadPlace, swapped, list(range(1, many + 1)), place)

    def test_bad_row_is_told_first(self):
        for at, row in enumerate(NO_ROWS):
            with self.subTest(at=at):
                refuses(self, BadRow, swapped, row, 1)
                refuses(self, BadRow, swapped, row, 0)
                refuses(self, BadRow, swapped, row, None)

    def test_what_is_handed_in_stays(self):
        leaves_alone(self, swapped, [3, 1, 2], 1)
        leaves_alone(self, swapped, [1, 2], 1)


class TestUpsAndDowns(unittest.TestCase):
    def test_by_hand(self):
        self.assertEqual(ups([1]), [])
        self.assertEqual(downs([1]), [])
        self.assertEqual(ups([1, 2]), [1])
        self.assertEqual(downs([1, 2]), [])
        self.assertEqual(ups([2, 1]), [])
        self.assertEqual(downs([2, 1]), [1])
        self.assertEqual(ups([3, 1, 2, 4]), [2, 3])
        self.assertEqual(downs([3, 1, 2, 4]), [1])
        self.assertEqual(ups(FIRST), list(range(1, 12)))
        self.assertEqual(downs(FIRST), [])
        self.assertEqual(ups(LAST), [])
        self.assertEqual(downs(LAST), list(range(1, 12)))
        self.assertEqual(ups(MIXED), [1, 3, 5, 7, 9, 11])
        self.assertEqual(downs(MIXED), [2, 4, 6, 8, 10])

    def test_all_rows_of_a_few_things(self):
        for many in range(1, 6):
            for row in rows_of(many):
                places = range(1, many)
                self.assertEqual(ups(row), [place for place in places if turned(swap(row, place)) > turned(row)])
                self.assertEqual(downs(row), [place for place in places if turned(swap(row, place)) < turned(row)])
                self.assertEqual(sorted(ups(row) + downs(row)), list(places))

    def test_bad_row(self):
        for at, row in enumerate(NO_ROWS):
            with self.subTest(at=at):
                refuses(self, BadRow, ups, row)
                refuses(self, BadRow, downs, row)

    def test_what_is_handed_in_stays(self):
        for row in ([1], [2, 1, 3], [3, 1, 2], [1, 2]):
            leaves_alone(self, ups, row)
            leaves_alone(self, downs, row)


class TestWalked(unittest.TestCase):
    def test_by_hand(self):
        self.assertEqual(walked([1], []), [1])
        self.assertEqual(walked([2, 3, 1], []), [2, 3, 1])
        self.assertEqual(walked([2, 3, 1], [2]), [2, 1, 3])
        self.assertEqual(walked([1, 2, 3], [1, 2]), [2, 3, 1])
        self.assertEqual(walked([1, 2, 3], [2, 1]), [3, 1, 2])
        self.assertEqual(walked([1, 2, 3], [1, 2, 1]), [3, 2, 1])
        self.assertEqual(walked([1, 2, 3], [1, 1]), [1, 2, 3])
        self.assertEqual(walked(FIRST, list(range(1, 12))), FIRST[1:] + [1])

    def test_many_places_against_swapped_one_by_one(self):
        for many in (2, 3, 7, 12):
            for count in (1, 2, 199, 200, 201, 1000):
                row = mixed_row(many, many)
                places = mixed(count, many - 1, count)
                behind = row
                for place in places:
                    behind = swapped(behind, place)
                self.assertEqual(walked(row, places), behind)

    def test_what_is_no_list_of_places(self):
        for at, places in enumerate(NO_PLACE_LISTS):
            with self.subTest(at=at):
                refuses(self, BadPlace, walked, [2, 4, 1, 3], places)

    def test_a_place_beyond_the_row(self):
        refuses(self, BadPlace, walked, [1], [1])
        refuses(self, BadPlace, walked, [2, 1], [1, 2])
        refuses(self, BadPlace, walked, FIRST, [11, 12])
        refuses(self, BadPlace, walked, FIRST, [1] * 1000 + [0])

    def test_bad_row_is_told_first(self):
        for at, row in enumerate(NO_ROWS):
            with self.subTest(at=at):
                refuses(self, BadRow, walked, row, [])
                refuses(self, BadRow, walked, row, [1])
                refuses(self, BadRow, walked, row, [0])
                refuses(self, BadRow, walked, row, None)

    def test_what_is_handed_in_stays(self):
        leaves_alone(self, walked, [2, 3, 1], [])
        leaves_alone(self, walked, [2, 3, 1], [1, 2, 2, 1, 2])
        row = [2, 3, 1]
        self.assertIsNot(walked(row, []), row)


class TestApart(unittest.TestCase):
    def test_by_hand(self):
        self.assertEqual(apart([1], [1]), [])
        self.assertEqual(apart([1, 2], [2, 1]), [(1, 2)])
        self.assertEqual(apart([2, 1, 3], [1, 3, 2]), [(1, 2), (2, 3)])
        self.assertEqual(apart([2, 3, 1], [3, 1, 2]), [(1, 2), (2, 3)])
        self.assertEqual(apart([3, 2, 1], [2, 3, 1]), [(2, 3)])
        self.assertEqual(apart(FIRST, LAST), all_pairs(12))

    def test_all_rows_of_a_few_things(self):
        for many in range(1, 5):
            for one in rows_of(many):
                self.assertEqual(apart(one, one), [])
                for other in rows_of(many):
                    told = apart(one, other)
                    self.assertEqual(told, sorted(turned(one) ^ turned(other)))
                    self.assertEqual(told, apart(other, one))

    def test_rising_list_of_tuples(self):
        told = apart(MIXED, mixed_row(12, 3))
        self.assertIsInstance(told, list)
        self.assertEqual(told, sorted(turned(MIXED) ^ turned(mixed_row(12, 3))))
        self.assertEqual({pair.__class__ for pair in told}, {tuple})

    def test_refusals_in_their_order(self):
        for at, row in enumerate(NO_ROWS):
            with self.subTest(at=at):
                refuses(self, BadRow, apart, row, [2, 1])
                refuses(self, BadRow, apart, [2, 1], row)
                refuses(self, BadRow, apart, row, row)
        refuses(self, Unlike, apart, [1, 2], [1, 2, 3])
        refuses(self, Unlike, apart, [1, 2, 3], [1, 2])
        refuses(self, BadRow, apart, [1, 2], [1, 2, 2])
        refuses(self, BadRow, apart, [1, 1, 2], [1, 2])

    def test_what_is_handed_in_stays(self):
        leaves_alone(self, apart, [2, 1, 3], [1, 3, 2])
        leaves_alone(self, apart, [2, 1, 3], [2, 1, 3])


class TestWayUp(unittest.TestCase):
    def test_by_hand(self):
        self.assertEqual(way_up([1, 2], [2, 1]), [1])
        self.assertEqual(way_up([1, 2, 3], [3, 2, 1]), [1, 2, 1])
        self.assertEqual(way_up([1, 3, 2], [3, 2, 1]), [1, 2])
        self.assertEqual(way_up([1, 2, 3, 4], [2, 1, 4, 3]), [1, 3])
        self.assertEqual(way_up([1, 2, 3, 4], [3, 4, 1, 2]), [2, 1, 3, 2])

    def test_from_a_row_to_itself(self):
        for row in ([1], [2, 1], [2, 3, 1], FIRST, MIXED, LAST):
            self.assertEqual(way_up(row, list(row)), [])
            self.assertEqual(way_up(row, row), [])

    def test_all_rows_of_a_few_things(self):
        for many in range(1, 5):
            for one in rows_of(many):
                for other in rows_of(many):
                    if turned(one) <= turned(other):
                        self.assertEqual(way_up(one, other), min(ways_up(one, other)))
                    else:
                        refuses(self, BadOrder, way_up, one, other)

    def test_six_things(self):
        last = [6, 5, 4, 3, 2, 1]
        for seed in range(60):
            one = mixed_row(6, seed)
            # With fewer turned pairs there are too many ways up to try all.
            if len(turned(one)) > 6:
                self.assertEqual(way_up(one, last), min(ways_up(one, last)))

    def test_twelve_things(self):
        way = way_up(FIRST, LAST)
        self.assertEqual(way, [place for top in range(1, 12) for place in range(top, 0, -1)])
        for one, other in ((FIRST, LAST), (FIRST, MIXED), (MIXED, LAST)):
            here = one
            for place in way_up(one, other):
                # Of all swaps by which a way up may go on, the lowest one.
                rising = [at for at in range(1, 12) if turned(here) < turned(swap(here, at)) <= turned(other)]
                self.assertEqual(place, rising[0])
                here = swap(here, place)
            self.assertEqual(here, other)

    def test_refusals_in_their_order(self):
        for at, row in enumerate(NO_ROWS):
            with self.subTest(at=at):
                refuses(self, BadRow, way_up, row, [2, 1])
                refuses(self, BadRow, way_up, [2, 1], row)
                refuses(self, BadRow, way_up, row, row)
        refuses(self, Unlike, way_up, [1, 2], [1, 2, 3])
        refuses(self, Unlike, way_up, [1, 2, 3], [1, 2])
        refuses(self, Unlike, way_up, [3, 2, 1], [1, 2])
        refuses(self, BadRow, way_up, [2, 1], [1, 2, 2])
        refuses(self, BadOrder, way_up, [2, 1], [1, 2])
        refuses(self, BadOrder, way_up, [2, 1, 3], [1, 3, 2])
        refuses(self, BadOrder, way_up, LAST, FIRST)

    def test_what_is_handed_in_stays(self):
        leaves_alone(self, way_up, [1, 2, 3], [3, 2, 1])
        leaves_alone(self, way_up, [1, 3, 2], [1, 3, 2])


if __name__ == "__main__":
    unittest.main()
