"""The join and the meet of two rows, and why a pair is turned in the join."""

from swaplattice.errors import BadPairs
from swaplattice.rows import check_alike, from_behind, is_pair, row_with, turned_pairs


def turned_in_either(one, other):
    """The pairs that are turned in one row or the other, as keys."""
    return {pair: True for pair in turned_pairs(one) + turned_pairs(other)}


def join(one, other):
    """The least row above both."""
    check_alike(one, other)
    turned = turned_in_either(one, other)
    many = len(one)
    # A rise over several numbers is put together one number at a time, so
    # the loop over the number between has to be the outer one.
    for middle in range(2, many):
        for low in range(1, middle):
            for high in range(middle + 1, many + 1):
                if (low, middle) in turned and (middle, high) in turned:
                    turned[(low, high)] = True
    return row_with(list(turned), many)


def meet(one, other):
    """The greatest row below both."""
    # Read from behind a row has just the other pairs turned, which makes
    # each row above another one a row below it.
    return from_behind(join(from_behind(one), from_behind(other)))


def chain(one, other, pair):
    """The numbers by which the pair is turned in the join, or None."""
    check_alike(one, other)
    if not is_pair(pair, len(one)):
        raise BadPairs("this is no pair of numbers of these rows")
    first, last = pair
    return shortest_rise(turned_in_either(one, other), first, last)


def shortest_rise(steps, first, last):
    """The shortest, of such the least, list that rises by steps; None without one."""
    rises = {last: [last]}
    for low in range(last - 1, first - 1, -1):
        nexts = [high for high in range(low + 1, last + 1) if (low, high) in steps and high in rises]
        if nexts:
            # Of several that are as short `min` takes the first one, whose
            # next number is the lowest: that makes the least list.
            best = min([rises[high] for high in nexts], key=len)
            rises[low] = [low, *best]
    return rises.get(first)
