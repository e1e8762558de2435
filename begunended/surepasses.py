"""The passes that look once at claims, and turn all rows of which these tell enough."""

from begunended.effects import FIXED
from begunended.orderforms import COMPARISONS
from begunended.settling import reckoning_of, states_of
from begunended.states import Moving, NothingLeft
from begunended.surerows import SureRows

NEVER_TRAP = ("odd", "ordt", "ordc", "and", "or", "not")
TELLING_WORDS = {"n": "num", "t": "truth", "c": "sign"}
# The pass that may turn rows of an order.
TURNED_BY = {
    "look": "looks", "unless": "tests", "store": "unread", "load": "folded", "odd": "folded", "ordt": "folded",
    "ordc": "folded", "and": "folded", "or": "folded", "not": "folded", "add": "folded", "sub": "folded",
    "mul": "folded", "div": "folded", "mod": "folded", "neg": "folded", "abs": "folded", "sqr": "folded",
    "chr": "folded", "tru": "folded", "eq": "folded", "ne": "folded", "lt": "folded", "le": "folded", "gt": "folded",
    "ge": "folded",
}


def may_turn(word, order):
    """Whether a pass may turn rows of this order."""
    return TURNED_BY.get(order[0]) == word


class SurePasses:
    """What the claims of a unit tell of rows: the rows that come in the place of each that is turned, or None."""

    def __init__(self, unit):
        self.reckoning = reckoning_of(unit)
        self.states = states_of(unit)
        self.sure = SureRows(self.reckoning, self.states)
        self.procs = unit.proc_table
        self.loaded = {name: self.names_loaded(name) for name in unit.procs}

    def names_loaded(self, name):
        """The dict of the private names that rows of a proc load."""
        orders = self.procs[name].orders
        takers = self.reckoning.privacy.takers[name]
        return {number: True for row, number in takers.items() if orders[row][0] == "load"}

    def looks(self, name, row):
        """No rows for a look that never traps."""
        return [] if self.sure.word_of(name, row) == "whole" else None

    def tests(self, name, row):
        """The one way of an unless."""
        order = self.procs[name].orders[row]
        word = self.sure.word_of(name, row)
        if word == "true":
            return [("drop",)]
        return [("drop",), ("jump", order[1])] if word == "false" else None

    def folded(self, name, row):
        """The number that an order surely leaves."""
        proc = self.procs[name]
        word = proc.orders[row][0]
        if (name, row) not in self.states or not self.is_foldable(name, row, word):
            return None
        moving = Moving(self.reckoning.ends, self.states[(name, row)])
        try:
            self.reckoning.do_order(name, row, moving)
        except NothingLeft:
            return None
        low, high = moving.cells[-1][:2]
        if low != high:
            return None
        many = len(self.states[(name, row)][1]) - len(moving.cells) + 1
        return [("drop",) for _ in range(many)] + [(TELLING_WORDS[self.sort_left(name, row)], low)]

    def is_foldable(self, name, row, word):
        """Whether an order that takes cells, or a private name's place, surely does not trap."""
        return word in NEVER_TRAP or word in COMPARISONS or self.sure.word_of(name, row) == "whole"

    def sort_left(self, name, row):
        """The sort of the cell that an order leaves."""
        proc = self.procs[name]
        word = proc.orders[row][0]
        if word == "load":
            return proc.things[self.reckoning.privacy.takers[name][row]]
        return "t" if word in COMPARISONS else FIXED[word][1][0]

    def unread(self, name, row):
        """Drops in the place of a store to a private name that is never loaded."""
        proc = self.procs[name]
        number = self.unread_name(name, row)
        if number is None or proc.gives != "-" and number == len(proc.takes):
            return None
        far_labels = [label for label in self.reckoning.flow.far_labels[name] if label in proc.labels]
        return None if far_labels else [("drop",), ("drop",)]

    def unread_name(self, name, row):
        """The private name to which a row store puts, if no row loads it; otherwise None."""
        number = self.reckoning.privacy.takers[name].get(row)
        return None if number is None or number in self.loaded[name] else number
