"""The ways of the left unit from a match, and how the right one follows each of them."""

from begunended.errors import Wide
from begunended.sides import Refused
from begunended.terms import MOST_WAYS
from begunended.walking import CASE_TRAP, gone_number, gone_truth, numbers_left

PARTING = ("unless", "table")


class Way:
    """A way of the left that was gone: how it ended, and by which word it is refused, or None.

    An outcome is ("match", row), ("end",), ("cut",) where it surely traps or never comes back, or
    ("none",) where nothing of it is compared.
    """

    def __init__(self, side, outcome, word):
        self.side = side
        self.ended_by = outcome
        self.word = word

    def known_at(self, number):
        """What the left knew ahead of its event with this number; all, if it has none."""
        befores = self.side.befores
        return befores[number] if number < len(befores) else self.side.known

    def tests_ahead(self, number):
        """The tests by which the left went ahead of its event with this number."""
        return [(term, told) for many, term, told in self.side.went_by if many <= number]


class LeftWays:
    """The ways of the left from a match on, in sequence; matched are the rows at which they may end."""

    def __init__(self, walker, states, name, matched):
        self.walker = walker
        self.states = states
        self.name = name
        self.matched = matched
        self.ways = []
        self.waiting = []

    def find(self, side, row):
        """Finds all ways from a row on."""
        self.waiting = [(side, row, "")]
        while self.waiting:
            side, row, ahead = self.waiting.pop()
            if ahead == "trap":
                side.deed(CASE_TRAP, ())
                self.add(side, ("end",), None)
            else:
                self.follow(side, row, ahead)

    def add(self, side, outcome, word):
        if len(self.ways) == MOST_WAYS:
            raise Wide(MOST_WAYS)
        self.ways.append(Way(side, outcome, word))

    def follow(self, side, row, ahead):
        """Goes a way until it ends, or parts; ahead is the order of the row that it went by last."""
        orders = self.walker.proc.orders
        outcome = self.outcome_at(side, row, ahead)
        while outcome is None:
            ahead = orders[row][0]
            if ahead in PARTING:
                self.part(side, row)
                return
            try:
                if self.walker.is_last(row):
                    self.walker.end(side, row)
                    outcome = ("end",)
                else:
                    row = self.walker.go_by(side, row)
                    outcome = self.outcome_at(side, row, ahead)
            except Refused as refused:
                self.add(side, ("none",), refused.word)
                return
        self.add(side, outcome, None)

    def outcome_at(self, side, row, ahead):
        """How a way ends where it comes to a row, None if it goes on."""
        state = self.states.get((self.name, row))
        if state is None or not learned(side, state):
            return ("none",) if ahead == "" or ahead in PARTING else ("cut",)
        return ("match", row) if ahead != "" and row in self.matched else None

    def part(self, side, row):
        """Goes all ways that are not decided, nor gone ahead."""
        order = self.walker.proc.orders[row]
        term = self.walker.part(side, row)
        tests = [test[1:] for test in side.went_by]
        if order[0] == "unless":
            found = side.known.truth_of(term)
            if found is None:
                found = gone_truth(side.known, side.terms, tests, term)
            steps = [(row + 1, True, "unless"), (self.walker.proc.labels[order[1]], False, "unless")]
            self.go_all([step for step in steps if found is None or found == step[1]], side, term)
            return
        numbers, may_trap = self.walker.ways_of_table(side, order, term)
        numbers, may_trap = numbers_left(numbers, may_trap, gone_number(side.known, tests, term))
        steps = [(self.walker.row_of_number(order, number), (True, number), "table") for number in numbers]
        if may_trap:
            told = tuple([order[1] + at for at, label in enumerate(order[2]) if label is not None])
            steps.append((row, (False, told), "trap"))
        self.go_all(steps, side, term)

    def go_all(self, steps, side, term):
        """Goes ways from a row on, each with how its test went, the first one first."""
        for number, told, ahead in reversed(steps):
            other = side.copied()
            other.went_by.append((len(other.events), term, told))
            self.waiting.append((other, number, ahead))


def learned(side, state):
    """Learns what is claimed at a row that a way comes to: whether anything is left of all that lies there."""
    told = []
    for number, is_set, low, high in state[0]:
        if number in side.names:
            holding = side.held.holdings[number]
            if holding[0] == "init" and is_set:
                side.known.is_set[holding[1]] = True
            if low is not None and holding[0] in ("init", "val"):
                told.append((side.initial[number] if holding[0] == "init" else holding[1], low, high))
    for (term, _), cell in zip(side.stack, state[1]):
        if cell is not None:
            told.append((term, cell[0], cell[1]))
    for term, low, high in told:
        if not side.known.meet(term, low, high):
            return False
    return None not in [side.known.stretch(term) for term, _, _ in told]


class RightWay:
    """The way of the right along a way of the left; arrivals are the rows at which it may come to its match."""

    def __init__(self, walker, way, arrivals):
        self.walker = walker
        self.left_way = way
        self.arrivals = arrivals

    def follow(self, side, row):
        """Goes from a row on: the row at which it came to a match, None at an end. Raises Refused."""
        orders = self.walker.proc.orders
        is_first = True
        while not self.is_cut(side):
            if not is_first and row in self.arrivals:
                return row
            is_first = False
            side.known = self.left_way.known_at(len(side.events))
            if orders[row][0] in PARTING:
                row = self.part(side, row)
                if row is None:
                    self.want_end()
                    side.deed(CASE_TRAP, ())
                    return None
            elif self.walker.is_last(row):
                self.want_end()
                self.walker.end(side, row)
                return None
            else:
                row = self.walker.go_by(side, row)
        return None

    def is_cut(self, side):
        """Whether nothing further of this way is compared."""
        return self.left_way.ended_by[0] == "cut" and len(side.events) >= len(self.left_way.side.events)

    def want_end(self):
        """Wants the way of the left not to have come to a match."""
        if self.left_way.ended_by[0] == "match":
            raise Refused("place")

    def part(self, side, row):
        """The row at which it goes on behind a test, None for a trap."""
        order = self.walker.proc.orders[row]
        term = self.walker.part(side, row)
        tests = self.left_way.tests_ahead(len(side.events))
        if order[0] == "unless":
            found = side.known.truth_of(term)
            if found is None:
                found = gone_truth(side.known, side.terms, tests, term)
            if found is None:
                raise Refused("test")
            return row + 1 if found else self.walker.proc.labels[order[1]]
        numbers, may_trap = self.walker.ways_of_table(side, order, term)
        numbers, may_trap = numbers_left(numbers, may_trap, gone_number(side.known, tests, term))
        if len(numbers) + int(may_trap) != 1:
            raise Refused("test")
        return None if may_trap else self.walker.row_of_number(order, numbers[0])
