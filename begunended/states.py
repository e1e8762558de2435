"""States: what surely holds ahead of a row, of private names and of the cells on the workspace.

A state is a pair of tuples: (name, whether it is surely set, low, high) for each private name, low and
high None where nothing was put; and for each thing on the workspace (low, high, stem, tests), None for
what is no cell n, t, c.
"""

from begunended.stretches import CONTRARY, FULL, common, widened
from begunended.values import MAXINT


class NothingLeft(ValueError):
    """A row goes on with no state at all."""


class Moving:
    """A state that rows change, over the ends of a unit."""

    def __init__(self, ends, state):
        self.ends = ends
        self.names = state[0]
        self.cells = list(state[1])

    def as_state(self):
        """The state as it is now."""
        return self.names, tuple(self.cells)

    def known_of(self, name):
        """What is known of a private name: (name, whether it is surely set, low, high)."""
        return [row for row in self.names if row[0] == name][0]

    def take(self):
        """Takes the upper cell off the workspace."""
        return self.cells.pop()

    def leave(self, stretch, stem, tests):
        """Leaves a cell; nothing goes on without numbers."""
        if stretch is None:
            raise NothingLeft("no number is left")
        self.cells.append((*widened(self.ends, *stretch), stem, tests))

    def leave_any(self, sort):
        """Leaves a thing of which nothing is known but its sort."""
        self.cells.append((*FULL[sort], None, ()) if sort in FULL else None)

    def met(self, stretch, low, high):
        """A stretch, or None, met with numbers; nothing goes on if nothing is left."""
        found = None
        if stretch is not None and low <= high:
            found = common(stretch, widened(self.ends, low, high))
        if found is None:
            raise NothingLeft("nothing is met")
        return found

    def stretch(self, name):
        """The stretch of a private name, None where nothing was put."""
        _, _, low, high = self.known_of(name)
        return None if low is None else (low, high)

    def keep(self, name, is_set, stretch):
        """Keeps what is known of a name from now on."""
        low, high = (None, None) if stretch is None else stretch
        self.names = tuple([(name, is_set, low, high) if row[0] == name else row for row in self.names])

    def meet_name(self, name, low, high):
        self.keep(name, self.known_of(name)[1], self.met(self.stretch(name), low, high))

    def meet_upper(self, low, high):
        """Meets the upper cell, and the name that is its stem; its tests end."""
        one, other, stem, _ = self.take()
        stretch = self.met((one, other), low, high)
        if stem is not None:
            self.meet_name(stem[0], low - stem[1], high - stem[1])
        self.leave(stretch, stem, ())

    def forget(self, name):
        """Ends all stems and tests of a name."""
        for at, cell in enumerate(list(self.cells)):
            if cell is not None and (cell[2] is not None or cell[3]):
                low, high, stem, tests = cell
                other = None if stem is not None and stem[0] == name else stem
                self.cells[at] = (low, high, other, tuple([test for test in tests if test[0] != name]))

    def learn(self, tests, is_true):
        """Learns tests one behind the other."""
        for name, more, word, low, high in tests:
            told = word if is_true else CONTRARY[word]
            if told == "ne":
                self.learn_unlike(name, low - more, high - more)
            else:
                numbers = learned(told, low - more, high - more)
                self.meet_name(name, *numbers)

    def learn_unlike(self, name, low, high):
        """Learns that a name holds another number, if just one was told."""
        if low != high:
            return
        stretch = self.stretch(name)
        if stretch is None:
            raise NothingLeft("nothing was put there")
        one, other = stretch
        one, other = (one + 1 if one == low else one), (other - 1 if other == low else other)
        if one > other:
            raise NothingLeft("all numbers are gone")
        self.keep(name, self.known_of(name)[1], widened(self.ends, one, other))


def learned(word, low, high):
    """The numbers that compare so to some number of a stretch."""
    if word == "lt":
        return -MAXINT, high - 1
    if word == "le":
        return -MAXINT, high
    if word == "gt":
        return low + 1, MAXINT
    return (low, MAXINT) if word == "ge" else (low, high)


def joined_states(one, other):
    """What holds in both of two states of one row; None stands for none."""
    if one is None or one == other:
        return other
    names = [joined_names(left, right) for left, right in zip(one[0], other[0])]
    cells = [joined_cells(left, right) for left, right in zip(one[1], other[1])]
    return tuple(names), tuple(cells)


def joined_names(one, other):
    name, is_set, low, high = one
    if low is None:
        low, high = other[2:]
    elif other[2] is not None:
        low, high = min(low, other[2]), max(high, other[3])
    return name, is_set and other[1], low, high


def joined_cells(one, other):
    if one is None:
        return None
    low, high, stem, tests = one
    both = []
    for test in tests:
        for twin in other[3]:
            if test[:3] == twin[:3]:
                both.append((*test[:3], min(test[3], twin[3]), max(test[4], twin[4])))
    return min(low, other[0]), max(high, other[1]), stem if stem == other[2] else None, tuple(both)
