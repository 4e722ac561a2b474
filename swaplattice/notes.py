"""Rows and words as texts."""

from swaplattice.errors import BadNote
from swaplattice.rows import MOST_THINGS, check_many, check_row, is_row
from swaplattice.words import MOST_PLACES, check_word

EMPTY_WORD = "."


def figures(numbers):
    """The text of these numbers, one blank between."""
    return " ".join([str(number) for number in numbers])


def read_figures(text, most):
    """The numbers from 1 to `most` that make up this text; None where it is no text of such."""
    if not isinstance(text, str):
        return None
    # `int` would take other ways to write a number as well, such as "+1".
    known = {str(number): number for number in range(1, most + 1)}
    parts = text.split(" ")
    if not all([part in known for part in parts]):
        return None
    return [known[part] for part in parts]


def row_text(row):
    """The text of the row."""
    check_row(row)
    return figures(row)


def read_row(text):
    """The row of which this is the text."""
    row = read_figures(text, MOST_THINGS)
    if not is_row(row):
        raise BadNote("this is no text of a row")
    return row


def word_text(word, many):
    """The text of the word."""
    check_word(word, many)
    if not word:
        return EMPTY_WORD
    return figures(word)


def read_word(text, many):
    """The word for so many things of which this is the text."""
    check_many(many)
    if isinstance(text, str) and text == EMPTY_WORD:
        return []
    word = read_figures(text, many - 1)
    if word is None or len(word) > MOST_PLACES:
        raise BadNote("this is no text of a word for so many things")
    return word
