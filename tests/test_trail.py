"""swaplattice/trail.py: a trail behind each deed, and what [1] says of refusals and of what is told."""

import unittest

from swaplattice.errors import BadMany, BadPlace, NothingDone
from swaplattice.trail import Trail
from tests.helpers import HUGE, NO_MANY, NO_PLACES, mixed, refuses, row_behind, turned


class TestTrail(unittest.TestCase):
    def stands(self, trail, many, places):
        """Check all that the trail tells."""
        row = row_behind(places, many)
        self.assertEqual(trail.row(), row)
        self.assertEqual(trail.places(), places)
        self.assertIsInstance(trail.row(), list)
        self.assertIsInstance(trail.places(), list)
        self.assertIs(trail.is_short(), len(turned(row)) == len(places))

    def test_a_new_one(self):
        for many in range(1, 13):
            trail = Trail(many)
            self.assertEqual(trail.row(), list(range(1, many + 1)))
            self.assertEqual(trail.places(), [])
            self.assertIs(trail.is_short(), True)

    def test_by_hand(self):
        trail = Trail(3)
        self.assertIsNone(trail.swap(1))
        self.assertEqual((trail.row(), trail.places(), trail.is_short()), ([2, 1, 3], [1], True))
        self.assertIsNone(trail.swap(2))
        self.assertEqual((trail.row(), trail.places(), trail.is_short()), ([2, 3, 1], [1, 2], True))
        self.assertIsNone(trail.swap(2))
        self.assertEqual((trail.row(), trail.places(), trail.is_short()), ([2, 1, 3], [1, 2, 2], False))
        self.assertEqual(trail.back(), 2)
        self.assertEqual((trail.row(), trail.places(), trail.is_short()), ([2, 3, 1], [1, 2], True))
        self.assertIsNone(trail.swap(1))
        self.assertEqual((trail.row(), trail.places(), trail.is_short()), ([3, 2, 1], [1, 2, 1], True))
        self.assertEqual([trail.back(), trail.back(), trail.back()], [1, 2, 1])
        self.assertEqual((trail.row(), trail.places(), trail.is_short()), ([1, 2, 3], [], True))

    def test_each_deed(self):
        for many in range(2, 13):
            trail, places = Trail(many), []
            self.stands(trail, many, places)
            for at, deed in enumerate(mixed(150, 3 * many, many)):
                if deed % 3 == 0 and places:
                    self.assertEqual(trail.back(), places.pop())
                else:
                    place = deed % (many - 1) + 1
                    self.assertIsNone(trail.swap(place))
                    places.append(place)
                self.stands(trail, many, places)

    def test_more_than_two_hundred_swaps(self):
        trail, places = Trail(12), mixed(450, 11, 7)
        for at, place in enumerate(places):
            trail.swap(place)
            self.stands(trail, 12, places[:at + 1])
        self.assertIs(trail.is_short(), False)
        for at in range(449, -1, -1):
            self.assertEqual(trail.back(), places[at])
            self.stands(trail, 12, places[:at])
        refuses(self, NothingDone, trail.back)

    def test_short_up_to_the_row_from_behind(self):
        trail = Trail(12)
        for top in range(1, 12):
            for place in range(top, 0, -1):
                trail.swap(place)
                self.assertIs(trail.is_short(), True)
        self.assertEqual(trail.row(), list(range(12, 0, -1)))
        for place in range(1, 12):
            trail.swap(place)
            self.assertIs(trail.is_short(), False)
            trail.back()

    def test_bad_many(self):
        for at, many in enumerate(NO_MANY):
            with self.subTest(at=at):
                refuses(self, BadMany, Trail, many)

    def test_bad_place_changes_nothing(self):
        trail = Trail(4)
        for places in ([], [2], [2, 1]):
            for place in places[-1:]:
                trail.swap(place)
            for at, place in enumerate(NO_PLACES):
                with self.subTest(at=at):
                    refuses(self, BadPlace, trail.swap, place)
                    self.stands(trail, 4, places)
        self.assertEqual(trail.back(), 1)

    def test_a_place_beyond_the_row(self):
        for many in range(1, 13):
            for place in (0, -1, many, many + 1, HUGE, -HUGE, True):
                refuses(self, BadPlace, Trail(many).swap, place)

    def test_nothing_done_changes_nothing(self):
        trail = Trail(4)
        refuses(self, NothingDone, trail.back)
        self.stands(trail, 4, [])
        trail.swap(3)
        self.assertEqual(trail.back(), 3)
        refuses(self, NothingDone, trail.back)
        refuses(self, NothingDone, trail.back)
        self.stands(trail, 4, [])
        trail.swap(2)
        self.stands(trail, 4, [2])
        refuses(self, NothingDone, Trail(1).back)

    def test_two_trails_do_not_touch_one_another(self):
        one, other = Trail(4), Trail(4)
        one.swap(1)
        self.stands(other, 4, [])
        other.swap(3)
        one.swap(2)
        self.stands(one, 4, [1, 2])
        self.stands(other, 4, [3])
        self.assertEqual(other.back(), 3)
        refuses(self, NothingDone, other.back)
        self.stands(one, 4, [1, 2])
        third = Trail(3)
        third.swap(1)
        self.stands(third, 3, [1])
        self.stands(one, 4, [1, 2])

    def test_what_is_told_may_be_changed(self):
        trail = Trail(4)
        for places in ([], [3], [3, 1]):
            for place in places[-1:]:
                trail.swap(place)
            row, told = trail.row(), trail.places()
            self.assertIsNot(row, trail.row())
            self.assertIsNot(told, trail.places())
            row.reverse()
            row.append(99)
            told.append(2)
            self.stands(trail, 4, places)
            row.clear()
            told.clear()
            self.stands(trail, 4, places)

    def test_what_is_told_stays_as_it_was(self):
        trail = Trail(3)
        trail.swap(1)
        row, places = trail.row(), trail.places()
        trail.swap(2)
        trail.back()
        trail.back()
        self.assertEqual((row, places), ([2, 1, 3], [1]))


if __name__ == "__main__":
    unittest.main()
