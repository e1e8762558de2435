"""Two units whose rows a seam matches: what the judge asks of both."""

from begunended.checking import walks_let
from begunended.flows import flow_of
from begunended.settling import states_of
from begunended.tracing import places_at, privacy_of


class SideUnit:
    """A unit of a pair that is let: how its rows lead, and what lies where."""

    def __init__(self, unit):
        self.flow = flow_of(unit)
        self.walked = walks_let(unit)
        self.privacy = privacy_of(unit)
        self.places = {name: places_at(self.privacy, name, walk.shapes) for name, walk in self.walked.items()}
        self.lines = {name: lines_ahead(self.flow, walk, name) for name, walk in self.walked.items()}

    def is_private(self, name, number):
        """Whether a thing of a proc is private: also a hidden name whose places no other proc tells."""
        proc = self.flow.procs[name]
        if is_hidden(proc, number):
            return number not in self.privacy.told_elsewhere(name)
        return number in self.privacy.names[name]


class Pair:
    """The left and the right unit of a seam; names are the private names of both by procs, the right's own among them.

    Far_labels are the labels, by procs, to which a far of the left that is come to leads; states the
    claims of the left.
    """

    def __init__(self, left, right):
        self.left = SideUnit(left)
        self.right = SideUnit(right)
        self.states = states_of(left)
        self.names = {name: self.private_names(name) for name in left.procs}
        self.far_labels = {name: {} for name in left.procs}
        for walk in self.left.walked.values():
            for row in walk.shapes:
                order = walk.proc.orders[row]
                if order[0] == "far":
                    self.far_labels[walk.proc.around[order[1]]][order[2]] = True

    def private_names(self, name):
        """The list of the names of a proc that are private in both; those that the left has not, in the right."""
        many = len(self.left.flow.procs[name].things)
        found = []
        for number in range(len(self.right.flow.procs[name].things)):
            if self.right.is_private(name, number) and (number >= many or self.left.is_private(name, number)):
                found.append(number)
        return found

    def is_own(self, name, number):
        """Whether the right alone has this thing."""
        return number >= len(self.left.flow.procs[name].things)


def is_hidden(proc, number):
    """Whether a thing of a proc is a hidden name."""
    return number >= len(proc.takes) and proc.things[number].startswith("&")


def lines_ahead(flow, walk, name):
    """By rows that are come to, the dict of the lines that ways there went by last, 0 ahead of any."""
    lines = {row: {} for row in walk.shapes}
    waiting = []
    for row in flow.entries(name):
        lines[row][0] = True
        waiting.append(row)
    while waiting:
        row = waiting.pop()
        order = walk.proc.orders[row]
        behind = {order[1]: True} if order[0] == "line" else lines[row]
        for other, _ in flow.leads(walk.proc, row, walk.shapes[row], walk.proc.work)[1]:
            if [line for line in behind if line not in lines[other]]:
                lines[other].update(dict(behind))
                waiting.append(other)
    return lines
