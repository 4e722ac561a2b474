"""swaplattice/words.py: point [7], and what [1] says of refusals and of what is handed in."""

import unittest

from swaplattice.errors import BadMany, BadMove, BadWord, NotAlike, NotShort
from swaplattice.words import is_short, led, moved, row_of, shortened
from tests.helpers import (NO_LISTS, NO_MANY, NO_MOVES, NO_WORDS, leaves_alone, mixed, mixed_row, mixed_short_word,
                           refuses, row_behind, rows_of, short_words_of, tried_move, turned, words_of)

SORTS = ("side", "turn", "drop")
# A short word of the row from behind, of 66 places.
LONGEST = [place for top in range(1, 12) for place in range(top, 0, -1)]


class Refusals:
    """What all functions refuse alike; `call` calls the one that is tested with a word and so many things."""

    def test_bad_many_is_told_first(self):
        for at, many in enumerate(NO_MANY):
            with self.subTest(at=at):
                refuses(self, BadMany, self.call, [], many)
                refuses(self, BadMany, self.call, [1, 0], many)
                refuses(self, BadMany, self.call, None, many)

    def test_bad_word(self):
        for at, word in enumerate(NO_WORDS):
            with self.subTest(at=at):
                refuses(self, BadWord, self.call, word, 4)

    def test_a_place_beyond_the_row(self):
        refuses(self, BadWord, self.call, [1], 1)
        refuses(self, BadWord, self.call, [2], 2)
        refuses(self, BadWord, self.call, [1, 2, 3], 3)
        refuses(self, BadWord, self.call, [12], 12)

    def test_two_hundred_places_and_one_more(self):
        self.call([1, 1] * 100, 2)
        refuses(self, BadWord, self.call, [1, 1] * 100 + [1], 2)
        refuses(self, BadWord, self.call, [1, 2, 3] * 67, 4)

    def test_what_is_handed_in_stays(self):
        for word in ([], [1], [1, 2, 1], [2, 2, 3, 1]):
            leaves_alone(self, self.call, word, 4)


class TestRowOf(Refusals, unittest.TestCase):
    call = staticmethod(row_of)

    def test_by_hand(self):
        self.assertEqual(row_of([], 1), [1])
        self.assertEqual(row_of([], 3), [1, 2, 3])
        self.assertEqual(row_of([1, 2], 3), [2, 3, 1])
        self.assertEqual(row_of([2, 1], 3), [3, 1, 2])
        self.assertEqual(row_of([1, 2, 1], 3), [3, 2, 1])
        self.assertEqual(row_of([2, 1, 3, 2], 4), [3, 4, 1, 2])
        self.assertEqual(row_of([1, 1, 2, 2, 2], 4), [1, 3, 2, 4])
        self.assertEqual(row_of(LONGEST, 12), list(range(12, 0, -1)))

    def test_all_short_lists_of_places(self):
        for many in range(1, 5):
            for word in words_of(many, 4):
                self.assertEqual(row_of(word, many), row_behind(word, many))

    def test_two_hundred_places(self):
        self.assertEqual(row_of([1] * 200, 2), [1, 2])
        self.assertEqual(row_of([1] * 199, 2), [2, 1])
        for many in (2, 5, 12):
            word = mixed(200, many - 1, many)
            self.assertEqual(row_of(word, many), row_behind(word, many))


class TestIsShort(Refusals, unittest.TestCase):
    call = staticmethod(is_short)

    def test_by_hand(self):
        for word, many in (([], 1), ([], 12), ([1], 2), ([1, 2, 1], 3), ([2, 1, 3, 2], 4), ([1, 3], 4), (LONGEST, 12),
                           (LONGEST[::-1], 12), (list(range(1, 12)), 12)):
            self.assertIs(is_short(word, many), True)
        for word, many in (([1, 1], 2), ([1, 2, 1, 2], 3), ([1, 3, 1], 4), ([2, 1, 2, 3, 3], 4), (LONGEST + [1], 12),
                           ([5] + LONGEST, 12), ([1] * 200, 2), ([1] * 199, 2)):
            self.assertIs(is_short(word, many), False)

    def test_against_all_words_with_fewer_places(self):
        for many in range(1, 5):
            fewest = {}
            for word in words_of(many, 4):
                row = tuple(row_behind(word, many))
                # Shorter words come first.
                fewest.setdefault(row, len(word))
                self.assertIs(is_short(word, many), len(word) == fewest[row])

    def test_two_hundred_places(self):
        for many in range(2, 13):
            self.assertIs(is_short(mixed(200, many - 1, many), many), False)


class TestMoved(Refusals, unittest.TestCase):
    @staticmethod
    def call(word, many):
        return moved(word, [], many)

    def refuses_at(self, number, word, moves, many):
        self.assertEqual(refuses(self, BadMove, moved, word, moves, many).at, number)

    def test_no_moves(self):
        self.assertEqual(moved([], [], 1), [])
        self.assertEqual(moved([1, 3, 1], [], 4), [1, 3, 1])
        word = [1, 2]
        self.assertIsNot(moved(word, [], 3), word)

    def test_side_by_hand(self):
        self.assertEqual(moved([1, 3], [("side", 0)], 4), [3, 1])
        self.assertEqual(moved([3, 1], [("side", 0)], 4), [1, 3])
        self.assertEqual(moved([2, 1, 11, 2], [("side", 1)], 12), [2, 11, 1, 2])
        self.assertEqual(moved([2, 1, 4], [("side", 1)], 5), [2, 4, 1])
        for word in ([1, 2], [2, 1], [1, 1], [3, 2], [3, 3]):
            self.refuses_at(0, word, [("side", 0)], 4)

    def test_turn_by_hand(self):
        self.assertEqual(moved([1, 2, 1], [("turn", 0)], 3), [2, 1, 2])
        self.assertEqual(moved([2, 1, 2], [("turn", 0)], 3), [1, 2, 1])
        self.assertEqual(moved([3, 3, 2, 3, 1], [("turn", 1)], 4), [3, 2, 3, 2, 1])
        self.assertEqual(moved([1, 10, 11, 10], [("turn", 1)], 12), [1, 11, 10, 11])
        for word in ([1, 3, 1], [3, 1, 3], [1, 1, 1], [1, 2, 3], [1, 2, 2], [2, 2, 1], [1, 1, 2], [2, 1, 3], [3, 2, 1]):
            self.refuses_at(0, word, [("turn", 0)], 4)
        self.refuses_at(0, [1, 11, 1], [("turn", 0)], 12)

    def test_drop_by_hand(self):
        self.assertEqual(moved([1, 1], [("drop", 0)], 2), [])
        self.assertEqual(moved([2, 3, 3, 1], [("drop", 1)], 4), [2, 1])
        self.assertEqual(moved([1, 1, 1], [("drop", 1)], 2), [1])
        self.assertEqual(moved([1] * 200, [("drop", 198)], 2), [1] * 198)
        for word in ([1, 2], [2, 1], [1, 3], [1, 2, 1]):
            self.refuses_at(0, word, [("drop", 0)], 4)

    def test_at_the_end_of_the_word_and_beyond_it(self):
        for at in (2, 3, 4, 100, 10 ** 50, -1, -2, -3, -4, -10 ** 50):
            self.refuses_at(0, [1, 3, 1], [("side", at)], 4)
            self.refuses_at(0, [1, 1, 1], [("drop", at)], 4)
        for at in (1, 2, 3, 4, 100, 10 ** 50, -1, -2, -3, -4, -10 ** 50):
            self.refuses_at(0, [1, 2, 1], [("turn", at)], 4)
        for sort in SORTS:
            self.refuses_at(0, [], [(sort, 0)], 4)
            self.refuses_at(0, [1], [(sort, 0)], 4)
        self.refuses_at(0, [1, 2], [("turn", 0)], 4)

    def test_all_moves_of_all_short_lists_of_places(self):
        for many in range(1, 5):
            for word in words_of(many, 4):
                for move in [(sort, at) for sort in SORTS for at in range(-5, 6)]:
                    behind = tried_move(word, move)
                    if behind is None:
                        self.refuses_at(0, word, [move], many)
                    else:
                        self.assertEqual(moved(word, [move], many), behind)
                        self.assertEqual(row_behind(behind, many), row_behind(word, many))

    def test_several_moves(self):
        self.assertEqual(moved([1, 2, 1, 2], [("turn", 0), ("drop", 2)], 3), [2, 1])
        self.assertEqual(moved([1, 2, 1, 2], [("turn", 1), ("drop", 0)], 3), [2, 1])
        self.assertEqual(moved([1, 3, 1], [("side", 0), ("drop", 1)], 4), [3])
        self.assertEqual(moved([1, 3], [("side", 0)] * 1001, 4), [3, 1])
        self.assertEqual(moved([1, 2, 1], [("turn", 0)] * 1000, 4), [1, 2, 1])
        self.assertEqual(moved([1] * 200, [("drop", 0)] * 100, 2), [])

    def test_what_is_no_move(self):
        for at, move in enumerate(NO_MOVES):
            with self.subTest(at=at):
                self.refuses_at(0, [1, 1, 1], [move], 4)
                self.refuses_at(0, [1, 3, 1], [move], 4)
                self.refuses_at(0, [1, 2, 1], [move], 4)
                self.refuses_at(2, [1, 3, 1, 1], [("side", 0), ("side", 0), move, ("drop", 2)], 4)

    def test_which_one_is_told(self):
        side = ("side", 0)
        self.refuses_at(1, [1, 3], [side, ("drop", 0)], 4)
        self.refuses_at(1, [1, 3], [side, ("drop", 0), ("drop", 0), None], 4)
        self.refuses_at(1, [1, 3], [side, None, ("drop", 0), side], 4)
        self.refuses_at(2, [1, 3], [side, side, ("side", True), ("side",)], 4)
        self.refuses_at(0, [1, 3], [("turn", 0), side, None], 4)
        self.refuses_at(0, [1, 3], [["side", 0], ("drop", 0)], 4)
        self.refuses_at(500, [1, 3], [side] * 500 + [("side", 1)], 4)
        self.refuses_at(100, [1] * 200, [("drop", 0)] * 101, 2)

    def test_which_one_is_told_is_a_number(self):
        self.assertIs(refuses(self, BadMove, moved, [1, 3], [("drop", 0)], 4).at.__class__, int)
        self.assertIs(refuses(self, BadMove, moved, [1, 3], [("side", 0), 7], 4).at.__class__, int)
        self.assertIs(refuses(self, BadMove, moved, [1, 3], None, 4).at.__class__, int)

    def test_what_is_no_list_of_moves(self):
        for at, moves in enumerate(NO_LISTS):
            with self.subTest(at=at):
                self.refuses_at(0, [1, 3], moves, 4)
        self.refuses_at(0, [1, 3], (("side", 0),), 4)
        self.refuses_at(0, [1, 3], ("side", 0), 4)
        self.refuses_at(0, [1, 3], {("side", 0): True}, 4)
        self.refuses_at(0, [1, 3], {("side", 0)}, 4)

    def test_bad_many_then_bad_word_are_told_first(self):
        refuses(self, BadMany, moved, [1, 3], [None], 0)
        refuses(self, BadMany, moved, [0], None, 13)
        refuses(self, BadWord, moved, [1, 3], [None], 3)
        refuses(self, BadWord, moved, [1, 3], None, 3)
        refuses(self, BadWord, moved, None, [("drop", 0)], 3)

    def test_moves_that_are_handed_in_stay(self):
        leaves_alone(self, moved, [1, 2, 1, 2], [("turn", 0), ("drop", 2)], 3)
        leaves_alone(self, moved, [1, 3], [("side", 0)], 4)


class TestShortened(Refusals, unittest.TestCase):
    call = staticmethod(shortened)

    def check(self, word, many):
        moves = shortened(word, many)
        self.assertIsInstance(moves, list)
        self.assertEqual({move.__class__ for move in moves} - {tuple}, set())
        short = moved(word, moves, many)
        row = row_behind(word, many)
        self.assertEqual(row_behind(short, many), row)
        self.assertEqual(len(short), len(turned(row)))
        self.assertIs(is_short(short, many), True)
        drops = [move for move in moves if move[0] == "drop"]
        self.assertEqual(2 * len(drops), len(word) - len(short))
        return moves

    def test_by_hand(self):
        self.assertEqual(self.check([1, 1], 2), [("drop", 0)])
        self.check([3, 1, 1], 4)
        self.check([1, 2, 1, 2], 3)
        self.check([1, 3, 1], 4)
        self.check([1, 2, 3, 4, 5, 4, 3, 2, 1, 1, 2, 3, 4, 5, 4, 3, 2, 1], 6)

    def test_all_short_lists_of_places(self):
        for many in range(1, 5):
            for word in words_of(many, 5):
                self.check(word, many)

    def test_long_ones(self):
        for many in range(2, 13):
            for count in (66, 120, 121, 199, 200):
                self.check(mixed(count, many - 1, count + many), many)
            self.check([place % (many - 1) + 1 for place in range(200)], many)
            self.check([many - 1 - place % (many - 1) for place in range(200)], many)
            self.check([1] * 200, many)
            self.check([many - 1] * 199, many)
        self.check(LONGEST + LONGEST, 12)
        self.check(LONGEST + LONGEST[::-1] + LONGEST, 12)
        self.check(LONGEST[::-1] + LONGEST + LONGEST[::-1], 12)

    def test_a_short_word_needs_no_drop(self):
        self.assertEqual(shortened([], 1), [])
        for many in range(1, 5):
            for row in rows_of(many):
                for word in short_words_of(row):
                    self.assertNotIn("drop", [move[0] for move in self.check(word, many)])
        for word in (LONGEST, LONGEST[::-1], mixed_short_word(mixed_row(12, 5), 6)):
            self.assertNotIn("drop", [move[0] for move in self.check(word, 12)])


class TestLed(Refusals, unittest.TestCase):
    @staticmethod
    def call(word, many):
        """Of the word to itself; NotShort of one that isn't short, so that what comes ahead of it shows."""
        try:
            return led(word, word, many)
        except NotShort:
            return None

    def check(self, word, other, many):
        moves = led(word, other, many)
        self.assertIsInstance(moves, list)
        self.assertEqual({move.__class__ for move in moves} - {tuple}, set())
        self.assertEqual({move[0] for move in moves} - {"side", "turn"}, set())
        self.assertEqual(moved(word, moves, many), other)
        return moves

    def test_by_hand(self):
        self.assertEqual(self.check([], [], 1), [])
        self.check([1, 2, 1], [2, 1, 2], 3)
        self.check([1, 3], [3, 1], 4)
        self.check([1, 2, 1, 3, 2, 1], [3, 2, 3, 1, 2, 3], 4)

    def test_all_short_words_of_a_few_things(self):
        for many in range(1, 5):
            for row in rows_of(many):
                words = short_words_of(row)
                for word in words:
                    for other in words:
                        self.check(word, other, many)

    def test_more_things(self):
        for many in range(5, 13):
            for seed in range(6):
                row = mixed_row(many, seed)
                word, other = mixed_short_word(row, seed + 10), mixed_short_word(row, seed + 20)
                self.check(word, other, many)
                self.check(other, word, many)
                self.check(word, list(word), many)
            last = list(range(many, 0, -1))
            self.check(mixed_short_word(last, 1), mixed_short_word(last, 2), many)
        self.check(LONGEST, LONGEST[::-1], 12)
        self.check(LONGEST, [12 - place for place in LONGEST], 12)
        self.check(LONGEST, LONGEST, 12)

    def test_not_short(self):
        for one, other, many in (([1, 1], [], 2), ([], [1, 1], 2), ([1, 1], [2, 2], 3), ([1, 2, 1, 2], [2, 1], 3),
                                 ([2, 1], [1, 2, 1, 2], 3), ([1, 3, 1], [1, 3, 1], 4), (LONGEST + [1], LONGEST, 12),
                                 (LONGEST, LONGEST + [1], 12), ([1] * 200, [1] * 200, 2)):
            refuses(self, NotShort, led, one, other, many)

    def test_not_alike(self):
        for one, other, many in (([], [1], 2), ([1], [], 2), ([1], [2], 3), ([1, 2], [2, 1], 3), ([1, 2, 1], [1, 2], 3),
                                 ([1, 3], [1, 2], 4), (LONGEST, LONGEST[1:], 12)):
            refuses(self, NotAlike, led, one, other, many)

    def test_not_short_is_told_ahead_of_not_alike(self):
        refuses(self, NotShort, led, [1, 1], [1], 3)
        refuses(self, NotShort, led, [2], [1, 1], 3)
        refuses(self, NotShort, led, [1, 1, 1], [2, 2], 3)

    def test_bad_word_of_one_of_the_other_and_of_both(self):
        for at, word in enumerate(NO_WORDS):
            with self.subTest(at=at):
                refuses(self, BadWord, led, word, [1, 2], 4)
                refuses(self, BadWord, led, [1, 2], word, 4)
                refuses(self, BadWord, led, word, word, 4)
                # The other one isn't short either.
                refuses(self, BadWord, led, word, [1, 1], 4)
                refuses(self, BadWord, led, [1, 1], word, 4)

    def test_bad_many_of_both(self):
        for at, many in enumerate(NO_MANY):
            with self.subTest(at=at):
                refuses(self, BadMany, led, [0], [1, 1], many)
                refuses(self, BadMany, led, [], None, many)
                refuses(self, BadMany, led, [1, 1], [1], many)

    def test_words_that_are_handed_in_stay(self):
        leaves_alone(self, led, [1, 2, 1], [2, 1, 2], 3)
        leaves_alone(self, led, [1, 3], [3, 1], 4)
        leaves_alone(self, led, [1, 3], [1, 3], 4)


if __name__ == "__main__":
    unittest.main()
