"""What several tests need: rows, what is no row and no pair, and point [5] done by trying all."""

import copy
from itertools import combinations, permutations

HUGE = 10 ** 5000


class Odd:
    """Of no kind that the document names."""


def within_itself():
    loop = []
    loop.append(loop)
    return loop


NO_LISTS = [None, True, False, 0, 3, -1, HUGE, "", "1", "1 2", b"\x01", (), (1,), (1, 2), {}, {1: 2}, {1, 2},
            range(1, 3), iter([1]), Odd(), Odd]

NO_ROWS = NO_LISTS + [
    [], list(range(1, 14)), list(range(1, 500)), [1, 1], [2, 1, 2], [1, 3], [2], [2, 3, 4], [0], [0, 1], [-1], [-1, 1, 2],
    [HUGE], [1, HUGE], [1, -HUGE], [True], [True, 2], [2, True], [False, 1], [1, None], [None], ["1"], [1, "2"], "21",
    [[1]], [1, [2]], [[1, 2]], [(1, 2)], [1, {}], [{1: 2}], [{1, 2}], [b"\x01"], [Odd(), 1], [Odd], within_itself(),
]

NO_MANY = [0, 13, 14, -1, -12, HUGE, -HUGE, True, False, None, "", "3", "three", b"\x03", [], [3], [1, 2, 3], (), (3,),
           {}, {3: 3}, {3}, range(3), Odd(), Odd]

# None of these is a pair of numbers of a row of 4 things.
NO_PAIRS = [None, True, 0, 12, HUGE, "12", "", b"12", [], [1, 2], {}, {1: 2}, {1, 2}, range(1, 3), Odd(), Odd,
            (), (1,), (1, 2, 3), (1, 2, 3, 4), (1, 1), (4, 4), (2, 1), (4, 1), (0, 1), (0, 0), (-1, 2), (-2, -1), (1, 5),
            (4, 5), (5, 6), (1, 13), (1, HUGE), (-HUGE, 1), (True, 2), (True, 4), (1, True), (False, 1), (None, 1),
            (1, None), (None, None), ("1", "2"), (1, "2"), ("1", 2), (1, [2]), ([1], 2), (1, {2: 2}), ({1: 1}, 2),
            (1, {2}), (1, (2,)), ((1, 2),), ((1, 2), 3), (1, Odd()), (Odd, 2), ([], {})]


def rows_of(many):
    """All rows of so many things."""
    return [list(row) for row in permutations(range(1, many + 1))]


def turned(row):
    """The set of the turned pairs, straight by point [3]."""
    return {(low, high) for low in row for high in row if low < high and row.index(high) < row.index(low)}


def only_one(found):
    assert len(found) == 1, found
    return found[0]


def tried_join(one, other):
    """The join, straight by point [5]."""
    both = turned(one) | turned(other)
    above = [row for row in rows_of(len(one)) if both <= turned(row)]
    return only_one([row for row in above if all(turned(row) <= turned(higher) for higher in above)])


def tried_meet(one, other):
    """The meet, straight by point [5]."""
    both = turned(one) & turned(other)
    below = [row for row in rows_of(len(one)) if turned(row) <= both]
    return only_one([row for row in below if all(turned(lower) <= turned(row) for lower in below)])


def tried_chain(one, other, pair):
    """The shortest and of such the least chain, by trying all."""
    steps = turned(one) | turned(other)
    low, high = pair
    for between in range(high - low):
        for middles in combinations(range(low + 1, high), between):
            numbers = [low, *middles, high]
            if all(step in steps for step in zip(numbers, numbers[1:])):
                return numbers
    return None


def all_pairs(many):
    """All pairs of the numbers of a row of so many things."""
    return list(combinations(range(1, many + 1), 2))


def leaves_alone(case, function, *handed):
    """Check that a call changes nothing that is handed in, and that its answer is the asker's own."""
    before = copy.deepcopy(handed)
    told = function(*handed)
    case.assertEqual(handed, before)
    if isinstance(told, list):
        kept = list(told)
        told.append(99)
        told[0] = 77
        case.assertEqual(handed, before)
        case.assertEqual(function(*handed), kept)
        case.assertEqual(handed, before)


def refuses(case, error, function, *handed):
    """Check that a call is refused by just this class and changes nothing that is handed in."""
    before = [list(part) if isinstance(part, list) else part for part in handed]
    with case.assertRaises(error) as caught:
        function(*handed)
    case.assertIs(caught.exception.__class__, error)
    for part, was in zip(handed, before):
        if isinstance(part, list):
            case.assertEqual(len(part), len(was))
            case.assertTrue(all(a is b for a, b in zip(part, was)))
