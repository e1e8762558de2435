"""Names that are private to a proc: their places are taken by orders that look at them, or put into them, alone."""

from begunended.effects import COUNTS, FIXED, LEFT_COUNTS
from begunended.flows import flow_of, given_sorts

PRIVATE_LAYOUTS = ("n", "t", "c")
# Rows ahead of which all private places are taken.
PARTINGS = {"label": True, "jump": True, "unless": True, "table": True, "leave": True, "far": True, "trap": True}


def counts_of(flow, order):
    """How many things an order takes, and how many it leaves."""
    word = order[0]
    if word in FIXED:
        takes, leaves = FIXED[word]
        return len(takes), len(leaves)
    if word in COUNTS:
        return COUNTS[word], LEFT_COUNTS.get(word, 0)
    if word == "call":
        proc = flow.procs[order[1]]
        return len(proc.takes), len(given_sorts(proc.gives))
    if word == "callh":
        heading = flow.headings[order[1]]
        return 1 + len(heading.takes), len(given_sorts(heading.gives))
    return 0, 1


class Trace:
    """The way of a place, and of what dup leaves of it, from the row that leaves it.

    Goes_well tells whether it does; takers are the rows load, store and unset that take it; stacks tell, by
    the rows that it lies there at, which of the things that lie above what lay there ahead it is.
    """

    def __init__(self, flow, proc, row):
        self.takers = []
        self.stacks = {}
        self.stack = [True]
        self.goes_well = True
        while self.goes_well and True in self.stack:
            row += 1
            if row >= len(proc.orders) or proc.orders[row][0] in PARTINGS:
                self.goes_well = False
            else:
                self.stacks[row] = self.stack
                self.go_by(flow, proc.orders[row], row)

    def go_by(self, flow, order, row):
        """Does an order, as far as this place is concerned."""
        takes, leaves = counts_of(flow, order)
        begin = max(0, len(self.stack) - takes)
        taken = self.stack[begin:]
        if order[0] == "dup":
            self.stack = self.stack + taken
            return
        self.stack = self.stack[:begin] + [False] * leaves
        if True not in taken or order[0] == "drop":
            return
        self.takers.append(row)
        is_whole = len(taken) == takes and taken[0] and True not in taken[1:]
        self.goes_well = order[0] in ("load", "store", "unset") and is_whole


class Privacy:
    """The private names of the procs of a unit.

    Names are tuples of numbers by procs; takers, by procs, the names that rows load, store and unset
    act on; traces, by procs and names, those of the rows that leave their places.
    """

    def __init__(self, flow):
        self.flow = flow
        self.names = {}
        self.takers = {}
        self.traces = {}
        for name, proc in flow.procs.items():
            self.find(name, proc)

    def find(self, name, proc):
        """Finds the private names of a proc, and the traces of their places."""
        aside = self.told_elsewhere(name)
        rows = {number: [] for number in range(len(proc.things))}
        for row, order in enumerate(proc.orders):
            if order[0] == "place" and order[1] == 0 and order[2] in rows:
                rows[order[2]].append(row)
        traces = {}
        for number, thing in enumerate(proc.things):
            if thing in PRIVATE_LAYOUTS and number not in aside:
                own = {row: Trace(self.flow, proc, row) for row in rows[number]}
                if all([trace.goes_well for trace in own.values()]):
                    traces[number] = own
        self.names[name] = tuple(sorted(list(traces)))
        self.traces[name] = traces
        self.takers[name] = {}
        for number, own in traces.items():
            for trace in own.values():
                for row in trace.takers:
                    self.takers[name][row] = number

    def told_elsewhere(self, name):
        """The dict of the numbers of a proc's things that rows place of other procs tell."""
        found = {}
        for other, proc in self.flow.procs.items():
            for order in proc.orders:
                if other != name and order[0] == "place" and order[1] < len(proc.around):
                    if proc.around[order[1]] == name:
                        found[order[2]] = True
        return found


def privacy_of(unit):
    """The private names of the procs of a unit."""
    if unit.privacy is None:
        unit.privacy = Privacy(flow_of(unit))
    return unit.privacy


def places_at(privacy, name, shapes):
    """By rows that are come to, the private names whose places lie on the workspace, by how high they lie."""
    found = {row: {} for row in shapes}
    for number, own in privacy.traces[name].items():
        for begin, trace in own.items():
            for row, stack in trace.stacks.items():
                if begin in shapes:
                    for height, is_place in enumerate(stack):
                        if is_place:
                            found[row][len(shapes[begin]) + height] = number
    return found
