"""The passes that look once at claims, and turn all rows of which these tell enough."""

from begunended.effects import FIXED
from begunended.orderforms import COMPARISONS
from begunended.settling import Reckoning, settled
from begunended.states import Moving, NothingLeft
from begunended.surerows import SureRows

NEVER_TRAP = ("odd", "ordt", "ordc", "and", "or", "not")
MAY_TRAP = ("add", "sub", "mul", "div", "mod", "neg", "abs", "sqr", "chr", "tru")
TELLING_WORDS = {"n": "num", "t": "truth", "c": "sign"}


class SurePasses:
    """What the claims of a unit tell of rows: the rows that come in the place of each that is turned, or None."""

    def __init__(self, unit):
        self.reckoning = Reckoning(unit)
        self.states = settled(self.reckoning)
        self.sure = SureRows(self.reckoning, self.states)
        self.procs = unit.proc_table

    def looks(self, name, row):
        """No rows for a look that never traps."""
        is_look = self.procs[name].orders[row][0] == "look"
        return [] if is_look and self.sure.word_of(name, row) == "whole" else None

    def tests(self, name, row):
        """The one way of an unless."""
        order = self.procs[name].orders[row]
        word = self.sure.word_of(name, row) if order[0] == "unless" else None
        if word == "true":
            return [("drop",)]
        return [("drop",), ("jump", order[1])] if word == "false" else None

    def folded(self, name, row):
        """The number that an order surely leaves."""
        proc = self.procs[name]
        word = proc.orders[row][0]
        if (name, row) not in self.states or not self.is_foldable(name, row, word):
            return None
        moving = Moving(self.reckoning.ends, self.states[(name, row)])
        try:
            self.reckoning.do_order(name, row, moving)
        except NothingLeft:
            return None
        low, high = moving.cells[-1][:2]
        if low != high:
            return None
        many = len(self.states[(name, row)][1]) - len(moving.cells) + 1
        return [("drop",) for _ in range(many)] + [(TELLING_WORDS[self.sort_left(name, row)], low)]

    def is_foldable(self, name, row, word):
        """Whether an order takes cells, or a private name's place, leaves a cell, and surely does not trap."""
        if word in NEVER_TRAP or word in COMPARISONS:
            return True
        return (word in MAY_TRAP or word == "load") and self.sure.word_of(name, row) == "whole"

    def sort_left(self, name, row):
        """The sort of the cell that an order leaves."""
        proc = self.procs[name]
        word = proc.orders[row][0]
        if word == "load":
            return proc.things[self.reckoning.privacy.takers[name][row]]
        return "t" if word in COMPARISONS else FIXED[word][1][0]

    def unread(self, name, row):
        """Drops in the place of a store to a private name that is never loaded."""
        proc = self.procs[name]
        number = self.unread_name(name, row)
        is_result = proc.gives != "-" and number == len(proc.takes)
        far_labels = [label for label in self.reckoning.flow.far_labels[name] if label in proc.labels]
        return None if number is None or is_result or far_labels else [("drop",), ("drop",)]

    def unread_name(self, name, row):
        """The private name to which a row stores, if no row loads it; otherwise None."""
        orders = self.procs[name].orders
        takers = self.reckoning.privacy.takers[name]
        if orders[row][0] != "store" or row not in takers:
            return None
        loads = [other for other in takers if takers[other] == takers[row] and orders[other][0] == "load"]
        return None if loads else takers[row]
