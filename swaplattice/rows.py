"""Rows, the pairs that are turned in them, and which row is below which."""

from swaplattice.errors import BadMany, BadPairs, BadRow, Unlike

MOST_THINGS = 12


def is_whole(thing):
    """Whether this is a whole number."""
    # Python takes True and False for ints.
    return isinstance(thing, int) and not isinstance(thing, bool)


def is_many(thing):
    """Whether a row may have so many things."""
    return is_whole(thing) and 1 <= thing <= MOST_THINGS


def is_row(thing):
    """Whether this is a row."""
    if not isinstance(thing, list) or not is_many(len(thing)):
        return False
    # Only numbers may be sorted: others can't all be compared.
    if not all([is_whole(number) for number in thing]):
        return False
    return sorted(thing) == list(range(1, len(thing) + 1))


def is_pair(thing, many):
    """Whether this is a pair of two numbers of a row of so many things."""
    if not isinstance(thing, tuple) or len(thing) != 2:
        return False
    low, high = thing
    return is_whole(low) and is_whole(high) and 1 <= low < high <= many


def check_many(many):
    """Refuse what is no number of things."""
    if not is_many(many):
        raise BadMany("a row has 1 to 12 things")


def check_row(row):
    """Refuse what is no row."""
    if not is_row(row):
        raise BadRow("a row is a list of the numbers from 1 to 12 at most, each once")


def check_alike(one, other):
    """Refuse what are no two rows of as many things."""
    check_row(one)
    check_row(other)
    if len(one) != len(other):
        raise Unlike("the rows have unlike many things")


def first_row(many):
    """The row of so many things in rising order."""
    check_many(many)
    return list(range(1, many + 1))


def turned_pairs(row):
    """The rising list of the pairs that are turned in the row."""
    check_row(row)
    return sorted([(low, high) for at, high in enumerate(row) for low in row[at + 1:] if low < high])


def count_ahead(number, turned, many):
    """How many numbers stand ahead of this one, by the turned pairs."""
    lower = [low for low in range(1, number) if (low, number) not in turned]
    higher = [high for high in range(number + 1, many + 1) if (number, high) in turned]
    return len(lower) + len(higher)


def row_with(pairs, many):
    """The row of so many things in which just these pairs are turned."""
    check_many(many)
    if not isinstance(pairs, list) or not all([is_pair(pair, many) for pair in pairs]):
        raise BadPairs("this is no list of pairs of these numbers")
    turned = {pair: True for pair in pairs}
    row = sorted(first_row(many), key=lambda number: count_ahead(number, turned, many))
    # If any row has these pairs it is this one; a pair that is there twice
    # shows here too.
    if turned_pairs(row) != sorted(pairs):
        raise BadPairs("there is no row in which just these pairs are turned, each told once")
    return row


def from_behind(row):
    """The row read from its end."""
    check_row(row)
    return row[::-1]


def renamed(row):
    """The row with each number A replaced by one more than its length less A."""
    check_row(row)
    return [len(row) + 1 - number for number in row]


def is_below(one, other):
    """Whether all pairs that are turned in the one are turned in the other."""
    check_alike(one, other)
    turned = turned_pairs(other)
    return all([pair in turned for pair in turned_pairs(one)])
