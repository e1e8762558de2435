"""Stretches of numbers, (low, high), and what comes of them by orders; None where nothing is left."""

from begunended.values import MAXINT

FULL = {"n": (-2147483647, 2147483647), "t": (0, 1), "c": (32, 126)}
CONTRARY = {"lt": "ge", "ge": "lt", "le": "gt", "gt": "le", "eq": "ne", "ne": "eq"}
TURNED = {"lt": "gt", "gt": "lt", "le": "ge", "ge": "le", "eq": "eq", "ne": "ne"}


class Ends:
    """The ends that stretches may have: rows are all of them, ascending, known is the dict of them."""

    def __init__(self, rows):
        self.rows = rows
        self.known = {end: True for end in rows}


def widened(ends, low, high):
    """The stretch of ends around numbers."""
    if low not in ends.known:
        low = end_below(ends.rows, low)
    if high not in ends.known:
        high = end_above(ends.rows, high)
    return low, high


def end_below(ends, number):
    """The greatest end that is at most a number, -maxint without one."""
    at = many_below(ends, number + 1)
    return ends[at - 1] if at > 0 else -MAXINT


def end_above(ends, number):
    """The least end that is at least a number, maxint without one."""
    at = many_below(ends, number)
    return ends[at] if at < len(ends) else MAXINT


def many_below(ends, number):
    """How many of the ascending ends are below a number."""
    low, high = 0, len(ends)
    while low < high:
        middle = (low + high) // 2
        if ends[middle] < number:
            low = middle + 1
        else:
            high = middle
    return low


def common(one, other):
    """What two stretches have in common."""
    low, high = max(one[0], other[0]), min(one[1], other[1])
    return (low, high) if low <= high else None


def cut(stretch):
    """What is within maxint either way."""
    return common(stretch, FULL["n"])


def sum_of(one, other):
    return one[0] + other[0], one[1] + other[1]


def difference(one, other):
    return one[0] - other[1], one[1] - other[0]


def product(one, other):
    """From the least to the greatest product of ends."""
    ends = [left * right for left in one for right in other]
    return min(ends), max(ends)


def quotient(one, other):
    """From the least to the greatest quotient, cut towards 0."""
    parts = [part for part in (other[0], other[1], -1, 1) if other[0] <= part <= other[1] and part != 0]
    ends = [divided(number, part) for number in one for part in parts]
    return (min(ends), max(ends)) if ends else None


def divided(number, part):
    """A quotient cut towards 0."""
    found = abs(number) // abs(part)
    return found if (number < 0) == (part < 0) else -found


def rest(one, other):
    """The rests, from 0 on, by what is above 0."""
    parts = common(other, (1, MAXINT))
    if parts is None:
        return None
    if one[0] >= 0 and one[1] < parts[0]:
        return one
    return 0, min(parts[1] - 1, one[1]) if one[0] >= 0 else parts[1] - 1


def without_signs(one):
    """From the least to the greatest number without its sign."""
    ends = [abs(one[0]), abs(one[1])]
    return 0 if one[0] <= 0 <= one[1] else min(ends), max(ends)


def compared(word, one, other):
    """(1, 1) if a comparison holds of all numbers of two stretches, (0, 0) if of none, otherwise (0, 1)."""
    if holds_always(word, one, other):
        return 1, 1
    return (0, 0) if holds_always(CONTRARY[word], one, other) else (0, 1)


def holds_always(word, one, other):
    """Whether a comparison holds of all numbers of two stretches."""
    if word == "lt":
        return one[1] < other[0]
    if word == "le":
        return one[1] <= other[0]
    if word == "gt":
        return one[0] > other[1]
    if word == "ge":
        return one[0] >= other[1]
    if word == "eq":
        return one[0] == one[1] == other[0] == other[1]
    return common(one, other) is None
