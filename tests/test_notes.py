"""swaplattice/notes.py: point [8], and what [1] says of refusals and of what is handed in."""

import unittest

from swaplattice.errors import BadMany, BadNote, BadRow, BadWord
from swaplattice.notes import read_row, read_word, row_text, word_text
from tests.helpers import NO_MANY, NO_ROWS, NO_TEXTS, NO_WORDS, leaves_alone, mixed, refuses, rows_of, words_of

FIRST = list(range(1, 13))
MIXED = [7, 12, 1, 9, 3, 11, 2, 10, 5, 8, 4, 6]


class TestRowText(unittest.TestCase):
    def test_by_hand(self):
        self.assertEqual(row_text([1]), "1")
        self.assertEqual(row_text([2, 1]), "2 1")
        self.assertEqual(row_text([3, 1, 2]), "3 1 2")
        self.assertEqual(row_text(FIRST), "1 2 3 4 5 6 7 8 9 10 11 12")
        self.assertEqual(row_text(MIXED), "7 12 1 9 3 11 2 10 5 8 4 6")

    def test_bad_row(self):
        for at, row in enumerate(NO_ROWS):
            with self.subTest(at=at):
                refuses(self, BadRow, row_text, row)

    def test_what_is_handed_in_stays(self):
        leaves_alone(self, row_text, [3, 1, 2])
        leaves_alone(self, row_text, [1])


class TestReadRow(unittest.TestCase):
    def test_by_hand(self):
        self.assertEqual(read_row("1"), [1])
        self.assertEqual(read_row("2 1"), [2, 1])
        self.assertEqual(read_row("3 1 2"), [3, 1, 2])
        self.assertEqual(read_row("1 2 3 4 5 6 7 8 9 10 11 12"), FIRST)
        self.assertEqual(read_row("7 12 1 9 3 11 2 10 5 8 4 6"), MIXED)

    def test_back_from_the_text(self):
        for many in range(1, 5):
            for row in rows_of(many):
                self.assertEqual(read_row(row_text(row)), row)
        self.assertEqual(read_row(row_text(FIRST[::-1])), FIRST[::-1])

    def test_what_is_no_text_of_anything(self):
        for at, text in enumerate(NO_TEXTS):
            with self.subTest(at=at):
                refuses(self, BadNote, read_row, text)

    def test_what_is_no_text_of_a_row(self):
        for text in (".", "1 1", "2 1 2", "2", "1 3", "2 3", "0 1", "1 2 3 4 5 6 7 8 9 10 11 12 13",
                     "13 12 11 10 9 8 7 6 5 4 3 2 1", "1 2 3 4 5 6 7 8 9 10 12", "2 3 4 5 6 7 8 9 10 11 12",
                     "1 2 3 4 5 6 7 8 9 10 11 12 1", "+1 2", "1 +2", "-1 2", "2 01", "1_0 1", "1 2 ", " 1 2", "1  2",
                     "1\n2", "1\t2", "1 2\n", "2 1.", "1 2 a", "one two", "1,2", "12 ", "21"):
            with self.subTest(text=text):
                refuses(self, BadNote, read_row, text)

    def test_told_is_the_askers_own(self):
        leaves_alone(self, read_row, "3 1 2")
        leaves_alone(self, read_row, "1")


class TestWordText(unittest.TestCase):
    def test_by_hand(self):
        self.assertEqual(word_text([], 1), ".")
        self.assertEqual(word_text([], 12), ".")
        self.assertEqual(word_text([1], 2), "1")
        self.assertEqual(word_text([1, 2, 1], 3), "1 2 1")
        self.assertEqual(word_text([2, 2, 2], 3), "2 2 2")
        self.assertEqual(word_text([11, 1, 10], 12), "11 1 10")
        self.assertEqual(word_text([11] * 200, 12), "11" + " 11" * 199)

    def test_bad_many_is_told_first(self):
        for at, many in enumerate(NO_MANY):
            with self.subTest(at=at):
                refuses(self, BadMany, word_text, [], many)
                refuses(self, BadMany, word_text, [0], many)
                refuses(self, BadMany, word_text, None, many)

    def test_bad_word(self):
        for at, word in enumerate(NO_WORDS):
            with self.subTest(at=at):
                refuses(self, BadWord, word_text, word, 4)
        refuses(self, BadWord, word_text, [1], 1)
        refuses(self, BadWord, word_text, [3], 3)

    def test_what_is_handed_in_stays(self):
        leaves_alone(self, word_text, [3, 1, 2], 4)
        leaves_alone(self, word_text, [], 4)


class TestReadWord(unittest.TestCase):
    def test_by_hand(self):
        self.assertEqual(read_word(".", 1), [])
        self.assertEqual(read_word(".", 12), [])
        self.assertEqual(read_word("1", 2), [1])
        self.assertEqual(read_word("1 2 1", 3), [1, 2, 1])
        self.assertEqual(read_word("11 1 10", 12), [11, 1, 10])
        self.assertEqual(read_word("2" + " 2" * 199, 3), [2] * 200)
        self.assertEqual(read_word("11" + " 11" * 199, 12), [11] * 200)

    def test_back_from_the_text(self):
        for many in range(1, 5):
            for word in words_of(many, 4):
                self.assertEqual(read_word(word_text(word, many), many), word)
        for many in range(2, 13):
            word = mixed(200, many - 1, many)
            self.assertEqual(read_word(word_text(word, many), many), word)

    def test_what_is_no_text_of_anything(self):
        for at, text in enumerate(NO_TEXTS):
            with self.subTest(at=at):
                for many in (1, 4, 12):
                    refuses(self, BadNote, read_word, text, many)

    def test_what_is_no_text_of_a_word_for_so_many(self):
        for text, many in (("1", 1), ("2", 2), ("1 2", 2), ("3 1", 3), ("12", 12), ("1 12", 12), ("10", 10), ("0", 4),
                           ("11" + " 11" * 200, 12), ("1" + " 1" * 200, 2), (". 1", 4), ("1 .", 4), ("..", 4),
                           (". .", 4), ("1 2 ", 4), (" 1 2", 4), ("1  2", 4), ("1\n2", 4), ("1 2\n", 4), (".\n", 4), ("+1", 4),
                           ("-1", 4), ("01", 4), ("1_0", 12), ("1 x", 4), ("", 4), (" ", 4), ("", 1)):
            with self.subTest(text=text, many=many):
                refuses(self, BadNote, read_word, text, many)

    def test_bad_many_is_told_first(self):
        for at, many in enumerate(NO_MANY):
            with self.subTest(at=at):
                refuses(self, BadMany, read_word, ".", many)
                refuses(self, BadMany, read_word, "", many)
                refuses(self, BadMany, read_word, "1 2", many)
                refuses(self, BadMany, read_word, None, many)

    def test_told_is_the_askers_own(self):
        leaves_alone(self, read_word, "3 1 2", 4)
        leaves_alone(self, read_word, ".", 4)


if __name__ == "__main__":
    unittest.main()
