"""To which rows the rows of a unit lead, with what lies on the workspace."""

from begunended.effects import COUNTS, EFFECTS, FIXED, Sorts, place_of
from begunended.layoutforms import is_cell

LAST = ("leave", "far", "trap")
# Orders that tell of frames further out, of things or of procs, which may not be there.
LINKED = {"place": True, "handed": True, "bind": True, "far": True, "call": True, "hand": True}
# Orders that do not lead to the next row alone.
PARTING = {"leave": True, "far": True, "trap": True, "jump": True, "unless": True, "table": True}


class Flow:
    """How the rows of a unit lead to each other; far_labels are those that rows far name, by procs."""

    def __init__(self, unit):
        self.procs = unit.proc_table
        self.layout_texts = unit.layout_texts
        self.headings = unit.signature_headings
        self.sorts = Sorts(unit)
        self.far_labels = {name: {} for name in self.procs}
        for proc in self.procs.values():
            for order in proc.orders:
                if order[0] == "far" and order[1] < len(proc.around):
                    self.far_labels[proc.around[order[1]]][order[2]] = True

    def entries(self, name):
        """The rows at which ways of a proc begin."""
        proc = self.procs[name]
        rows = {0: True}
        for label in self.far_labels[name]:
            if label in proc.labels:
                rows[proc.labels[label]] = True
        return sorted(list(rows))

    def leads(self, proc, row, shape, most):
        """The word by which a row of a proc is refused, or None, and all (row, shape) to which it leads."""
        order = proc.orders[row]
        word = order[0]
        if word in LINKED and not self.is_linked(proc, order):
            return "link", []
        takes = FIXED[word][0] if word in FIXED else self.takes_of(proc, order)
        many = COUNTS[word] if takes is None else len(takes)
        height = len(shape) - many
        if height < 0:
            return "short", []
        leaves = self.left_by(proc, order, takes, shape[height:])
        if leaves is None:
            return "sort", []
        behind = shape[:height] + leaves
        if word == "leave" and behind:
            return "left", []
        if len(behind) > most:
            return "work", []
        rows = sorted(list(rows_behind(proc, order, row))) if word in PARTING else (row + 1,)
        if rows and rows[-1] == len(proc.orders):
            return "end", []
        return None, [(number, behind) for number in rows]

    def is_linked(self, proc, order):
        """Whether what an order tells of frames further out, of things and procs there, is there."""
        word = order[0]
        if word == "place" or word == "handed":
            thing = self.thing_out(proc, order[1], order[2])
            return thing is not None and thing.startswith("@") == (word == "handed")
        if word == "bind":
            things = proc.things
            return len(proc.takes) <= order[1] < len(things) and things[order[1]].startswith("&")
        if word == "far":
            return order[1] < len(proc.around) and order[2] in self.procs[proc.around[order[1]]].labels
        if word == "call" or word == "hand":
            around = self.procs[order[1]].around
            return len(around) > 1 and around[1] in proc.around
        return True

    def thing_out(self, proc, links, number):
        """A thing of the frame so many links out, as its PARAM; None if there is none."""
        if links >= len(proc.around):
            return None
        things = self.procs[proc.around[links]].things
        return things[number] if number < len(things) else None

    def takes_of(self, proc, order):
        """What an order takes, if that hangs on nothing that lies on the workspace; otherwise None."""
        word = order[0]
        if word in COUNTS:
            return None
        if word in FIXED:
            return FIXED[word][0]
        if word == "call":
            return self.sorts_taken(self.procs[order[1]].takes)
        if word == "callh":
            return ("@" + order[1], *self.sorts_taken(self.headings[order[1]].takes))
        return ()

    def sorts_taken(self, params):
        """The sorts of what is taken for these PARAMs."""
        found = []
        for param in params:
            if param.startswith("&"):
                found.append(place_of(param[1:]))
            elif param.startswith("@") or is_cell(self.sorts.table.of(param)):
                found.append(param)
            else:
                found.append(place_of(param))
        return tuple(found)

    def left_by(self, proc, order, takes, given):
        """The tuple of what an order leaves, None if it cannot take what is given."""
        word = order[0]
        if takes is not None and given != takes:
            return None
        if word in FIXED:
            return FIXED[word][1]
        if word in EFFECTS:
            effect = EFFECTS[word]
            return effect(self.sorts, order, given)
        if word == "place" or word == "handed":
            thing = self.thing_out(proc, order[1], order[2])
            return (thing,) if word == "handed" else (place_of(thing.lstrip("&")),)
        if word == "call":
            return given_sorts(self.procs[order[1]].gives)
        if word == "callh":
            return given_sorts(self.headings[order[1]].gives)
        if word == "hand":
            is_fit = is_same_heading(self.procs[order[1]], self.headings[order[2]])
            return ("@" + order[2],) if is_fit else None
        return () if given[0] == place_of(proc.things[order[1]][1:]) else None


def flow_of(unit):
    """How the rows of a unit lead to each other."""
    if unit.flow is None:
        unit.flow = Flow(unit)
    return unit.flow


def given_sorts(gives):
    return () if gives == "-" else (gives,)


def is_same_heading(one, other):
    """Whether two procs or signatures take and give the same."""
    return one.takes == other.takes and one.gives == other.gives


def rows_behind(proc, order, row):
    """The dict of the numbers of all rows to which a row leads, the one behind the last one among them."""
    word = order[0]
    if word in LAST:
        return {}
    if word == "jump":
        return {proc.labels[order[1]]: True}
    if word == "unless":
        return {row + 1: True, proc.labels[order[1]]: True}
    if word == "table":
        return {proc.labels[label]: True for label in order[2] if label is not None}
    return {row + 1: True}


class Walk:
    """All rows of a proc that ways come to, with their shapes and the row ahead of each on its way.

    Fault is None, or (word, row) of a row that is refused, or (unlike, row, row ahead of it) where
    a row ahead leads to one with another shape than some way.
    """

    def __init__(self, flow, name, most):
        self.proc = flow.procs[name]
        self.shapes = {}
        self.ahead = {}
        self.fault = None
        rows = flow.entries(name)
        for row in rows:
            self.shapes[row] = ()
            self.ahead[row] = None
        while rows and self.fault is None:
            rows = self.go_on(flow, rows, most)

    def go_on(self, flow, rows, most):
        """The rows that are come to behind these for the first time."""
        found = []
        for row in rows:
            word, leads = flow.leads(self.proc, row, self.shapes[row], most)
            if word is not None:
                self.fault = (word, row)
                return []
            for number, shape in leads:
                if number not in self.shapes:
                    self.shapes[number] = shape
                    self.ahead[number] = row
                    found.append(number)
                elif self.shapes[number] != shape:
                    self.fault = ("unlike", number, row)
                    return []
        return found

    def way_to(self, row):
        """The way by which a row was come to first."""
        way = []
        while row is not None:
            way.append(row)
            row = self.ahead[row]
        return tuple(list(reversed(way)))


def followed(flow, name, way, most):
    """The shape with which a way ends, None for what is no way of this proc."""
    proc = flow.procs[name]
    if not isinstance(way, tuple) or not way or not is_row(way[0], proc) or way[0] not in flow.entries(name):
        return None
    shape = ()
    for row, number in zip(way, way[1:]):
        leads = flow.leads(proc, row, shape, most)[1]
        shapes = [behind for other, behind in leads if is_row(number, proc) and other == number]
        if not shapes:
            return None
        shape = shapes[0]
    return shape


def is_row(value, proc):
    """Whether this is the number of a row of a proc."""
    return isinstance(value, int) and not isinstance(value, bool) and 0 <= value < len(proc.orders)
