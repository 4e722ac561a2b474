"""What several tests need: rows and words, what is none of these, and points done by trying all."""

import copy
from itertools import combinations, permutations, product

HUGE = 10 ** 5000


class Odd:
    """Of no kind that the document names."""


class Same:
    """Of no kind that the document names, but equal to all things."""

    def __eq__(self, other):
        return True

    def __hash__(self):
        return 1


def within_itself():
    loop = []
    loop.append(loop)
    return loop


NO_LISTS = [None, True, False, 0, 3, -1, HUGE, "", "1", "1 2", b"\x01", (), (1,), (1, 2), {}, {1: 2}, {1, 2},
            range(1, 3), iter([1]), Odd(), Odd, Same()]

NO_ROWS = NO_LISTS + [
    [], list(range(1, 14)), list(range(1, 500)), [1, 1], [2, 1, 2], [1, 3], [2], [2, 3, 4], [0], [0, 1], [-1], [-1, 1, 2],
    [HUGE], [1, HUGE], [1, -HUGE], [True], [True, 2], [2, True], [False, 1], [1, None], [None], ["1"], [1, "2"], "21",
    [[1]], [1, [2]], [[1, 2]], [(1, 2)], [1, {}], [{1: 2}], [{1, 2}], [b"\x01"], [Odd(), 1], [Odd],
    [Same(), 2], within_itself(),
]

NO_MANY = [0, 13, 14, -1, -12, HUGE, -HUGE, True, False, None, "", "3", "three", b"\x03", [], [3], [1, 2, 3], (), (3,),
           {}, {3: 3}, {3}, range(3), Odd(), Odd, Same()]

# None of these is a pair of numbers of a row of 4 things.
NO_PAIRS = [None, True, 0, 12, HUGE, "12", "", b"12", [], [1, 2], {}, {1: 2}, {1, 2}, range(1, 3), Odd(), Odd,
            (), (1,), (1, 2, 3), (1, 2, 3, 4), (1, 1), (4, 4), (2, 1), (4, 1), (0, 1), (0, 0), (-1, 2), (-2, -1), (1, 5),
            (4, 5), (5, 6), (1, 13), (1, HUGE), (-HUGE, 1), (True, 2), (True, 4), (1, True), (False, 1), (None, 1),
            (1, None), (None, None), ("1", "2"), (1, "2"), ("1", 2), (1, [2]), ([1], 2), (1, {2: 2}), ({1: 1}, 2),
            (1, {2}), (1, (2,)), ((1, 2),), ((1, 2), 3), (1, Odd()), (Odd, 2), ([], {}),
            Same(), (Same(), 2), (1, Same())]

# None of these is a place of a row of 4 things.
NO_PLACES = [0, -1, -4, 4, 5, 12, HUGE, -HUGE, True, False, None, "", "1", b"\x01", [], [1], [1, 2], (), (1,), {},
             {1: 1}, {1}, range(1, 3), Odd(), Odd, Same()]

# None of these is a list of places of a row of 4 things.
NO_PLACE_LISTS = NO_LISTS + [within_itself()] + [
    places for place in NO_PLACES for places in ([place], [place, 1, 2], [1, place, 3], [3, 2, place])]

# None of these is a word for 4 things.
NO_WORDS = NO_PLACE_LISTS + [[1] * 201, [1, 2, 3] * 67, [1] * 5000, [1] * 200 + [True], [1, 2, [3]], [0] * 200]

# None of these is a move, whatever the word.
NO_MOVES = NO_LISTS + [
    (), ("side",), ("drop",), ("side", 0, 1), ("turn", 0, 0), ("drop", 0, 0, 0), ["side", 0], ["turn", 0], ["drop", 0],
    "side", "drop 0", ("slide", 0), ("", 0), ("Side", 0), ("side ", 0), ("drops", 0), ("turned", 0), (0, "side"),
    (0, 0), (1, 0), (None, 0), (True, 0), (b"drop", 0), (["drop"], 0), (("drop",), 0), ({"drop": 0}, 0), ({"drop"}, 0),
    (Odd(), 0), (Odd, 0), (Same(), 0), ("side", True), ("side", False), ("turn", False), ("drop", True),
    ("drop", False), ("drop", None), ("drop", "0"), ("drop", ""), ("drop", [0]), ("drop", (0,)), ("drop", {0: 0}), ("drop", Odd()),
    ("drop", Same()), ("drop", -1), ("side", -1), ("turn", -1), ("drop", -2), ("side", -HUGE), ("drop", HUGE),
    ("turn", HUGE), {"drop": 0}, {"drop", 0}, [("drop", 0)], (("drop", 0),), within_itself()]

# None of these is the text of anything.
NO_TEXTS = [None, True, False, 0, 1, 12, -1, HUGE, b"1", b".", [], [1], ["1"], ["."], (), (1,), ("1",), {}, {1: 1},
            {"1": 1}, {1}, range(1, 3), Odd(), Odd, Same(), within_itself(),
            "", " ", "  ", " 1", "1 ", " 1 2", "1 2 ", "1  2", "a", "1 a", "one", "1,2", "1;2", "1 2;", "+1", "-1",
            "1 +2", "1 -2", "01", "1 02", "00", "0", "1 0", "1_0", "1_2", "1_", "1.", "1.0", "2 1.", ". 1", "1 .",
            "1 . 2", "..", ". .", " .", ". ", "13", "1 13", "99", "12" * 30, "0x1", "1e0", "(1 2)", "[1, 2]", "~",
            "1 2 ~", "/", ":", "True", "None", "x" * 2000, "1" * 2000, " " * 2000, "." * 2000, "1 " * 1000, " 1" * 1000,
            ("1 " * 1000)[:1999]]


def rows_of(many):
    """All rows of so many things."""
    return [list(row) for row in permutations(range(1, many + 1))]


def turned(row):
    """The set of the turned pairs, straight by point [3]."""
    return {(low, high) for low in row for high in row if low < high and row.index(high) < row.index(low)}


def only_one(found):
    assert len(found) == 1, found
    return found[0]


def tried_join(one, other):
    """The join, straight by point [5]."""
    both = turned(one) | turned(other)
    above = [row for row in rows_of(len(one)) if both <= turned(row)]
    return only_one([row for row in above if all(turned(row) <= turned(higher) for higher in above)])


def tried_meet(one, other):
    """The meet, straight by point [5]."""
    both = turned(one) & turned(other)
    below = [row for row in rows_of(len(one)) if turned(row) <= both]
    return only_one([row for row in below if all(turned(lower) <= turned(row) for lower in below)])


def tried_chain(one, other, pair):
    """The shortest and of such the least chain, by trying all."""
    steps = turned(one) | turned(other)
    low, high = pair
    for between in range(high - low):
        for middles in combinations(range(low + 1, high), between):
            numbers = [low, *middles, high]
            if all(step in steps for step in zip(numbers, numbers[1:])):
                return numbers
    return None


def all_pairs(many):
    """All pairs of the numbers of a row of so many things."""
    return list(combinations(range(1, many + 1), 2))


def leaves_alone(case, function, *handed):
    """Check that a call changes nothing that is handed in, and that its answer is the asker's own."""
    before = copy.deepcopy(handed)
    told = function(*handed)
    case.assertEqual(handed, before)
    if isinstance(told, list):
        case.assertTrue(all(isinstance(part, (int, tuple)) for part in told))
        kept = list(told)
        told.append(99)
        told[0] = 77
        case.assertEqual(handed, before)
        case.assertEqual(function(*handed), kept)
        case.assertEqual(handed, before)


def shape(thing, deep=4):
    """Which thing this is and which ones it holds, lists within it too: to see later whether that has changed."""
    if deep and isinstance(thing, (list, tuple)):
        return id(thing), [shape(part, deep - 1) for part in thing]
    if deep and isinstance(thing, dict):
        return id(thing), [(id(key), shape(part, deep - 1)) for key, part in thing.items()]
    return id(thing)


def refuses(case, error, function, *handed):
    """Check that a call is refused by just this class and changes nothing that is handed in; the refusal."""
    before = shape(handed)
    with case.assertRaises(error) as caught:
        function(*handed)
    case.assertIs(caught.exception.__class__, error)
    case.assertEqual(shape(handed), before)
    return caught.exception


def swap(row, place):
    """The row behind a swap, straight by point [6]."""
    return row[:place - 1] + [row[place], row[place - 1]] + row[place + 1:]


def walk(row, places):
    """The row behind swaps, straight by point [6]."""
    for place in places:
        row = swap(row, place)
    return row


def row_behind(word, many):
    """The row of a word, straight by point [7]."""
    return walk(list(range(1, many + 1)), word)


def ways_up(one, other):
    """All ways up from the one row to the other, straight by point [6]."""
    if one == other:
        return [[]]
    found = []
    for place in range(1, len(one)):
        row = swap(one, place)
        if turned(one) < turned(row) <= turned(other):
            found += [[place, *rest] for rest in ways_up(row, other)]
    return found


def words_of(many, most):
    """All words for so many things of at most so many places, shorter ones first."""
    return [list(word) for length in range(most + 1) for word in product(range(1, many), repeat=length)]


def short_words_of(row):
    """All short words of the row."""
    return ways_up(sorted(row), row)


def tried_move(word, move):
    """The word behind a move, straight by point [7]; None where it can't be done."""
    sort, at = move
    if at < 0:
        return None
    ahead, two, three = word[:at], word[at:at + 2], word[at:at + 3]
    if sort == "side" and len(two) == 2 and abs(two[0] - two[1]) > 1:
        return ahead + two[::-1] + word[at + 2:]
    if sort == "turn" and len(three) == 3 and three[0] == three[2] and three[1] in (three[0] - 1, three[0] + 1):
        return ahead + [three[1], three[0], three[1]] + word[at + 3:]
    if sort == "drop" and len(two) == 2 and two[0] == two[1]:
        return ahead + word[at + 2:]
    return None


def mixed(count, most, seed):
    """So many numbers from 1 to `most`, well mixed and the same each time."""
    numbers = []
    for _ in range(count):
        seed = (seed * 6364136223846793005 + 1442695040888963407) % 2 ** 64
        numbers.append((seed >> 33) % most + 1)
    return numbers


def mixed_row(many, seed):
    """A row of so many things, well mixed and the same each time."""
    row = list(range(1, many + 1))
    return [row.pop(at % len(row)) for at in mixed(many, 1000, seed)]


def mixed_short_word(row, seed):
    """A short word of the row, well mixed and the same each time."""
    here, places = sorted(row), []
    for at in mixed(len(turned(row)), 1000, seed):
        rising = [place for place in range(1, len(row)) if turned(here) < turned(swap(here, place)) <= turned(row)]
        places.append(rising[at % len(rising)])
        here = swap(here, places[-1])
    assert here == row
    return places
