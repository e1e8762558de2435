"""Rows that never come, that surely go one way, or that no numbers of their stretches make trap."""

from begunended.numberdeeds import HIGHEST_SIGN, LOWEST_SIGN
from begunended.stretches import cut, difference, product, sum_of, without_signs

SUMS = ("add", "sub", "mul")


class SureRows:
    """What the states of a unit tell of its rows."""

    def __init__(self, reckoning, states):
        self.reckoning = reckoning
        self.states = states

    def word_of(self, name, row):
        """The word for a row of a proc, None if there is nothing to be told."""
        if (name, row) not in self.states:
            return "never"
        order = self.reckoning.flow.procs[name].orders[row]
        cells = self.states[(name, row)][1]
        if order[0] == "unless":
            low, high = cells[-1][:2]
            return ("false", "true")[low] if low == high else None
        return "whole" if self.is_whole(name, row, order, cells) else None

    def is_whole(self, name, row, order, cells):
        """Whether an order that may trap surely does not."""
        word = order[0]
        if word == "load":
            number = self.reckoning.privacy.takers[name].get(row)
            names = self.states[(name, row)][0]
            return number is not None and [told[1] for told in names if told[0] == number] == [True]
        if word in SUMS:
            found = reckoned(word, cells[-2][:2], cells[-1][:2])
            return cut(found) == found
        if word in CHECKS:
            check = CHECKS[word]
            low, high = cells[-1][:2]
            return check(order, low, high)
        return False


def reckoned(word, one, other):
    """From the least to the greatest number that may come, whatever maxint is."""
    if word == "add":
        return sum_of(one, other)
    return difference(one, other) if word == "sub" else product(one, other)


def is_within(order, low, high):
    return order[1] <= low and high <= order[2]


def is_sign(order, low, high):
    return LOWEST_SIGN <= low and high <= HIGHEST_SIGN


def is_truth(order, low, high):
    return 0 <= low and high <= 1


def is_not_nought(order, low, high):
    return low > 0 or high < 0


def is_above_nought(order, low, high):
    return low > 0


def is_always(order, low, high):
    return True


def has_square(order, low, high):
    least, most = without_signs((low, high))
    return cut((least * least, most * most)) == (least * least, most * most)


def has_labels(order, low, high):
    """Whether a table has a label for each of these numbers."""
    if not order[1] <= low or not high < order[1] + len(order[2]):
        return False
    return None not in order[2][low - order[1]:high - order[1] + 1]


# Of orders that may trap: whether they do not, by the upper cell that they take.
CHECKS = {
    "look": is_within, "index": is_within, "chr": is_sign, "tru": is_truth, "div": is_not_nought,
    "mod": is_above_nought, "neg": is_always, "abs": is_always, "sqr": has_square, "table": has_labels,
}
