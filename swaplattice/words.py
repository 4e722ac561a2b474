"""Words of swaps, and the moves that lead them to one another."""

from swaplattice.combing import combing_moves
from swaplattice.errors import BadMove, BadWord, NotAlike, NotShort
from swaplattice.rows import check_many, first_row, is_whole, turned_pairs
from swaplattice.ways import are_places, walked

MOST_PLACES = 200

# How many places of a word a move of each sort takes hold of.
REACHES = {"side": 2, "turn": 3, "drop": 2}


def check_word(word, many):
    """Refuse what is no number of things, then what is no word for so many."""
    check_many(many)
    if not are_places(word, many) or len(word) > MOST_PLACES:
        raise BadWord("a word is a list of 0 to 200 places")


def row_of(word, many):
    """The row that the word's swaps make of the first row."""
    check_word(word, many)
    return walked(first_row(many), word)


def all_go_up(places, row):
    """Whether swaps at these places, which lead from the first row to this one, all go up."""
    # Each swap turns a pair or turns one back, so one that goes down leaves
    # fewer turned pairs than there are swaps.
    return len(places) == len(turned_pairs(row))


def is_short(word, many):
    """Whether no word with fewer places has the same row."""
    return all_go_up(word, row_of(word, many))


def is_move(thing):
    """Whether this is a move, be it one that can be done or not."""
    if not isinstance(thing, tuple) or len(thing) != 2:
        return False
    sort, at = thing
    return isinstance(sort, str) and sort in REACHES and is_whole(at) and at >= 0


def made_of(part, sort):
    """What a move of this sort makes of the places that it takes hold of; None where it can't be done."""
    first, second, *rest = part
    if sort == "side" and abs(first - second) >= 2:
        return [second, first]
    if sort == "turn" and abs(first - second) == 1 and rest == [first]:
        return [second, first, second]
    if sort == "drop" and first == second:
        return []
    return None


def behind_move(word, move):
    """The word behind this move; None where it is no move or can't be done."""
    if not is_move(move):
        return None
    sort, at = move
    end = at + REACHES[sort]
    if end > len(word):
        return None
    part = made_of(word[at:end], sort)
    if part is None:
        return None
    return word[:at] + part + word[end:]


def moved(word, moves, many):
    """The word behind these moves, one behind the other."""
    check_word(word, many)
    if not isinstance(moves, list):
        raise BadMove(0)
    behind = list(word)
    for at, move in enumerate(moves):
        behind = behind_move(behind, move)
        if behind is None:
            raise BadMove(at)
    return behind


def shortened(word, many):
    """Moves that lead to a short word of the same row."""
    check_word(word, many)
    moves = combing_moves(word, many)
    # Only a drop takes places out, so the word is short behind the last one,
    # and what follows isn't needed.
    drops = [at for at, move in enumerate(moves) if move[0] == "drop"]
    return moves[:max(drops, default=-1) + 1]


def led(word, other, many):
    """Moves without a drop that lead from a short word to another one of the same row."""
    check_word(word, many)
    check_word(other, many)
    if not is_short(word, many) or not is_short(other, many):
        raise NotShort("only short words are led to one another")
    if row_of(word, many) != row_of(other, many):
        raise NotAlike("the words have unlike rows")
    there = combing_moves(word, many)
    back = combing_moves(other, many)
    # A side or a turn that is done twice is none: so moves are undone from
    # their end, and those in which both ways end aren't needed.
    while there and back and there[-1] == back[-1]:
        there.pop()
        back.pop()
    return there + back[::-1]
