"""A row on which swaps are done and taken back."""

from swaplattice.errors import NothingDone
from swaplattice.rows import first_row
from swaplattice.ways import swapped
from swaplattice.words import all_go_up


class Trail:
    """A row of so many things, the first one at first, and the swaps that stand."""

    def __init__(self, many):
        self._row = first_row(many)
        self._places = []

    def swap(self, place):
        """Do a swap at this place."""
        self._row = swapped(self._row, place)
        self._places.append(place)

    def back(self):
        """Take the last swap that stands back, and tell its place."""
        if not self._places:
            raise NothingDone("no swap stands that could be taken back")
        place = self._places.pop()
        self._row = swapped(self._row, place)
        return place

    def row(self):
        """The row behind the swaps that stand."""
        return list(self._row)

    def places(self):
        """The places of the swaps that stand."""
        return list(self._places)

    def is_short(self):
        """Whether no fewer swaps lead to the row."""
        return all_go_up(self._places, self._row)
