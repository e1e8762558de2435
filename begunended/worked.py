"""Orders over told values, worked out as the machine does them."""

from begunended.effects import FIXED
from begunended.errors import Trap
from begunended.numberdeeds import NUMBER_DEEDS
from begunended.orderforms import COMPARISONS
from begunended.setreading import ordinals_of
from begunended.signs import sign_of

# Rows that leave a told value, and its sort.
TELLING = {"num": "n", "truth": "t", "sign": "c", "set": "s"}


class Bench:
    """A workspace by itself."""

    def __init__(self, values):
        self.stack = values


def worked_out(order, rows):
    """The row that leaves what an order makes of what these rows leave; None if it traps, or takes other things."""
    given = tuple([TELLING.get(row[0]) for row in rows])
    leaves = sort_left(order[0], given)
    if leaves is None:
        return None
    bench = Bench([value_of(row) for row in rows])
    deed = NUMBER_DEEDS[order[0]]
    try:
        deed(None, bench, order)
    except Trap:
        return None
    return telling_row(leaves, bench.stack[-1])


def sort_left(word, given):
    """The sort n, t, c or s that an order over values leaves, None if it leaves none, or cannot take these."""
    if word in COMPARISONS:
        return "t" if len(given) == 2 and given[0] == given[1] and given[0] in ("n", "t", "c") else None
    if word not in NUMBER_DEEDS or word not in FIXED or FIXED[word][0] != given:
        return None
    return FIXED[word][1][0]


def value_of(row):
    """The value that a row leaves, as the machine keeps it."""
    if row[0] == "truth":
        return row[1] == 1
    if row[0] == "sign":
        return sign_of(row[1])
    return sum([1 << number for number in row[1]]) if row[0] == "set" else row[1]


def telling_row(sort, value):
    """The row that leaves a value of this sort."""
    if sort == "n":
        return "num", value
    if sort == "t":
        return "truth", int(value)
    return ("sign", ord(value)) if sort == "c" else ("set", ordinals_of(value))
