"""What the program refuses, a class for each kind of refusal."""


class SwapError(ValueError):
    """Any refusal."""


class BadMany(SwapError):
    """What is no number of things, 1 to 12."""


class BadRow(SwapError):
    """What is no row."""


class Unlike(SwapError):
    """Rows of unlike many things."""


class BadPairs(SwapError):
    """What is no pair, or no list of pairs that are turned in a row."""


class BadOrder(SwapError):
    """A row that isn't below the one that it is to be led up to."""


class BadPlace(SwapError):
    """What is no place, or no list of places."""


class BadWord(SwapError):
    """What is no word."""


class BadMove(SwapError):
    """What is no move, or one that can't be done; `at` is its number."""

    def __init__(self, at):
        self.at = at


class NotShort(SwapError):
    """A word that isn't short where a short one is due."""


class NotAlike(SwapError):
    """Words of unlike rows."""


class NothingDone(SwapError):
    """Nothing stands that could be taken back."""


class BadNote(SwapError):
    """What is not the text that is due."""
