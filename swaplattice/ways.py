"""Swaps of neighbours, and the ways up from a row to one above it."""

from swaplattice.errors import BadOrder, BadPlace
from swaplattice.rows import check_alike, check_row, is_below, is_whole, turned_pairs


def is_place(thing, many):
    """Whether this is a place of a row of so many things."""
    return is_whole(thing) and 1 <= thing < many


def are_places(thing, many):
    """Whether this is a list of places of a row of so many things."""
    return isinstance(thing, list) and all([is_place(place, many) for place in thing])


def walked(row, places):
    """The row behind swaps at these places, one behind the other."""
    check_row(row)
    if not are_places(places, len(row)):
        raise BadPlace("a place is a whole number from 1 to one less than there are things")
    behind = list(row)
    for place in places:
        behind[place - 1], behind[place] = behind[place], behind[place - 1]
    return behind


def swapped(row, place):
    """The row behind a swap at this place."""
    return walked(row, [place])


def ups(row):
    """The rising list of the places whose swaps go up."""
    check_row(row)
    return [place for place in range(1, len(row)) if row[place - 1] < row[place]]


def downs(row):
    """The rising list of the places whose swaps go down."""
    check_row(row)
    return [place for place in range(1, len(row)) if row[place - 1] > row[place]]


def apart(one, other):
    """The rising list of the pairs that are turned in just one of both rows."""
    check_alike(one, other)
    return sorted(set(turned_pairs(one)) ^ set(turned_pairs(other)))


def way_up(one, other):
    """The least list of the ways up from the one row to the other."""
    if not is_below(one, other):
        raise BadOrder("the one row isn't below the other")
    row = one
    places = []
    missing = apart(one, other)
    # Whichever missing pair is turned first, the row stays below the other
    # one: so the lowest place can be taken each time.
    while missing:
        place = min([place for place in ups(row) if (row[place - 1], row[place]) in missing])
        missing.remove((row[place - 1], row[place]))
        row = swapped(row, place)
        places.append(place)
    return places
