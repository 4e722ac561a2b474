"""Moves that lead a word to the combed word of its row.

A combed word is made of runs, one for each place, the run of place 1 first: it goes from that place down by 1 to some
lowest place, or is empty. Each row has just one combed word, and that one is short.
"""


def slide(start, end):
    """The moves by which the place at `start` of a word gets ahead to `end`, past places that differ by 2 or more."""
    return [("side", at) for at in range(start - 1, end - 1, -1)]


def comb_in(lows, place):
    """The moves that lead a place behind a combed word into it; the runs are changed.

    The runs are told by their lowest places, lows[top] being that of the run of `top`: one more than `top` where it
    is empty. lows[0] only fills up.
    """
    moves = []
    at = sum([top + 1 - low for top, low in enumerate(lows)])
    # No place gets past the run that begins with it, so the loop ends within.
    for top in range(len(lows) - 1, 0, -1):
        low = lows[top]
        start = at - (top + 1 - low)
        if place == low - 1:
            lows[top] = place
            break
        if place == low:
            lows[top] = low + 1
            moves.append(("drop", at - 1))
            break
        if place < low:
            moves.extend(slide(at, start))
        else:
            # The run holds this place as well, and then the next lower one:
            # only a turn leads past these two, and it makes the lower one
            # of what goes on ahead.
            twin = start + top - place
            moves.extend([*slide(at, twin + 2), ("turn", twin), *slide(twin, start)])
            place = place - 1
        at = start
    return moves


def combing_moves(word, many):
    """The moves that lead this word for so many things to the combed word of its row."""
    lows = list(range(1, many + 1))
    moves = []
    for place in word:
        moves.extend(comb_in(lows, place))
    return moves
