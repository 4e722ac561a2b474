"""Point [1] over the whole program: what is handed in, what is told, and which refusal of several is due."""

import importlib
import unittest
from itertools import combinations

from swaplattice.errors import (BadMany, BadMove, BadNote, BadOrder, BadPairs, BadPlace, BadRow, BadWord, NotAlike,
                                NotShort, Unlike)
from tests.helpers import (NO_LISTS, NO_MANY, NO_MOVES, NO_PAIRS, NO_PLACE_LISTS, NO_PLACES, NO_ROWS, NO_TEXTS,
                           NO_WORDS, leaves_alone, refuses)
from tests.test_interface import LISTED

NO_PAIR_LISTS = NO_LISTS + [[pair] for pair in NO_PAIRS] + [[(1, 4)], [(1, 2), (1, 2)]]
NO_MOVE_LISTS = NO_LISTS + [[move] for move in NO_MOVES] + [[("drop", 9)], [("side", 0), ("drop", 9)]]
TWO_ROWS = [(BadRow, 0, NO_ROWS), (BadRow, 1, NO_ROWS), (Unlike, 1, [[1, 2], [1, 2, 3, 4, 5]])]
A_WORD = [(BadMany, 1, NO_MANY), (BadWord, 0, NO_WORDS)]

# By each function what it takes, and its refusals in the order in which
# they are due: the class, which of what it takes is put in its place, and
# what by. Each refusal is due whatever the others put in other places.
CALLS = {
    "rows.is_row": ([[3, 1, 2, 4]], []),
    "rows.first_row": ([4], [(BadMany, 0, NO_MANY)]),
    "rows.turned_pairs": ([[3, 1, 2, 4]], [(BadRow, 0, NO_ROWS)]),
    "rows.row_with": ([[(2, 3), (1, 3)], 4], [(BadMany, 1, NO_MANY), (BadPairs, 0, NO_PAIR_LISTS)]),
    "rows.from_behind": ([[3, 1, 2, 4]], [(BadRow, 0, NO_ROWS)]),
    "rows.renamed": ([[3, 1, 2, 4]], [(BadRow, 0, NO_ROWS)]),
    "rows.is_below": ([[2, 1, 3, 4], [2, 1, 4, 3]], TWO_ROWS),
    "joins.join": ([[2, 1, 3, 4], [1, 2, 4, 3]], TWO_ROWS),
    "joins.meet": ([[2, 3, 1, 4], [2, 1, 4, 3]], TWO_ROWS),
    "joins.chain": ([[2, 1, 3, 4], [1, 3, 2, 4], (1, 3)], TWO_ROWS + [(BadPairs, 2, NO_PAIRS)]),
    "ways.swapped": ([[3, 1, 2, 4], 2], [(BadRow, 0, NO_ROWS), (BadPlace, 1, NO_PLACES)]),
    "ways.ups": ([[3, 1, 2, 4]], [(BadRow, 0, NO_ROWS)]),
    "ways.downs": ([[3, 1, 2, 4]], [(BadRow, 0, NO_ROWS)]),
    "ways.walked": ([[3, 1, 2, 4], [1, 2]], [(BadRow, 0, NO_ROWS), (BadPlace, 1, NO_PLACE_LISTS)]),
    "ways.apart": ([[2, 3, 1, 4], [2, 1, 4, 3]], TWO_ROWS),
    "ways.way_up": ([[2, 1, 3, 4], [4, 2, 3, 1]], TWO_ROWS + [(BadOrder, 0, [[1, 3, 2, 4], [4, 3, 2, 1]])]),
    "words.row_of": ([[1, 2, 2], 4], A_WORD),
    "words.is_short": ([[1, 2, 2], 4], A_WORD),
    "words.moved": ([[1, 3, 1], [("side", 0), ("drop", 1)], 4],
                    [(BadMany, 2, NO_MANY), (BadWord, 0, NO_WORDS), (BadMove, 1, NO_MOVE_LISTS)]),
    "words.shortened": ([[1, 3, 1], 4], A_WORD),
    "words.led": ([[1, 2, 1], [2, 1, 2], 4],
                  [(BadMany, 2, NO_MANY), (BadWord, 0, NO_WORDS), (BadWord, 1, NO_WORDS),
                   (NotShort, 0, [[1, 1], [1, 2, 1, 2]]), (NotShort, 1, [[1, 1], [1, 2, 1, 2]]),
                   (NotAlike, 0, [[], [1, 3], [3, 2, 1]])]),
    "notes.row_text": ([[3, 1, 2, 4]], [(BadRow, 0, NO_ROWS)]),
    "notes.read_row": (["3 1 2 4"], [(BadNote, 0, NO_TEXTS)]),
    "notes.word_text": ([[3, 1, 1], 4], A_WORD),
    "notes.read_word": (["3 1 1", 4], [(BadMany, 1, NO_MANY), (BadNote, 0, NO_TEXTS)]),
}


def function_called(name):
    module, name = name.split(".")
    return getattr(importlib.import_module(f"swaplattice.{module}"), name)


class TestWhole(unittest.TestCase):
    def test_no_function_is_left_out(self):
        listed = [f"{module.split('.')[1]}.{name}" for module, names in LISTED.items() for name in names]
        self.assertEqual(list(CALLS), [name for name in listed if name.split(".")[0] not in ("errors", "trail")])

    def test_what_is_handed_in_stays_and_what_is_told_is_the_askers_own(self):
        for name, (taken, _) in CALLS.items():
            with self.subTest(name=name):
                leaves_alone(self, function_called(name), *taken)

    def test_each_refusal(self):
        for name, (taken, due) in CALLS.items():
            for error, which, wrong in due:
                for at, thing in enumerate(wrong):
                    with self.subTest(name=name, which=which, at=at):
                        handed = taken[:which] + [thing] + taken[which + 1:]
                        refuses(self, error, function_called(name), *handed)

    def test_of_two_refusals_the_one_that_is_due_first(self):
        for name, (taken, due) in CALLS.items():
            for (error, which, wrong), (later, other, things) in combinations(due, 2):
                if which != other:
                    for at, thing in enumerate(wrong):
                        with self.subTest(name=name, error=error, later=later, at=at):
                            handed = list(taken)
                            handed[which] = thing
                            handed[other] = things[at % len(things)]
                            refuses(self, error, function_called(name), *handed)


if __name__ == "__main__":
    unittest.main()
