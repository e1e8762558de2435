"""Settling of states: rows make states of states, joined until nothing changes."""

from begunended.checking import walks_let
from begunended.claims import ends_told
from begunended.effects import COUNTS
from begunended.flows import flow_of
from begunended.states import Moving, NothingLeft, joined_states
from begunended.statesteps import STATE_STEPS
from begunended.stretches import FULL
from begunended.tracing import privacy_of

GOES_ON_ELSEWHERE = {
    "jump": True, "unless": True, "table": True, "call": True, "hand": True, "leave": True, "far": True, "trap": True,
}


class Reckoning:
    """What a unit that is let tells of states: how rows make states of states."""

    def __init__(self, unit):
        self.first = unit.procs[0]
        self.walked = walks_let(unit)
        self.flow = flow_of(unit)
        self.privacy = privacy_of(unit)
        self.ends = ends_told(unit)
        self.leaving = {name: rows_of(walk, "leave") for name, walk in self.walked.items()}
        self.calling = {name: [] for name in self.walked}
        for name, walk in self.walked.items():
            for row in rows_of(walk, "call"):
                self.calling[walk.proc.orders[row][1]].append((name, row))

    def first_state(self, name, is_set):
        """The state at row 0 of a proc whose names are not set, but its takes, perhaps."""
        proc = self.flow.procs[name]
        names = []
        for number in self.privacy.names[name]:
            if is_set and number < len(proc.takes):
                names.append((number, True, *FULL[proc.things[number]]))
            else:
                names.append((number, False, None, None))
        return tuple(names), ()

    def beginning(self):
        """The first row, and its state at the begin."""
        name = self.first
        return (name, 0), self.first_state(name, False)

    def made_behind(self, place, states):
        """The list of (place, state) that the row at a place, (proc, row), makes of its state."""
        name, row = place
        proc = self.flow.procs[name]
        order = proc.orders[row]
        moving = Moving(self.ends, states[place])
        try:
            if order[0] in GOES_ON_ELSEWHERE:
                return self.elsewhere(name, row, moving, states)
            self.do_order(name, row, moving)
        except NothingLeft:
            return []
        return [((name, row + 1), moving.as_state())]

    def do_order(self, name, row, moving):
        """Does an order behind which the next row goes on."""
        proc = self.flow.procs[name]
        order = proc.orders[row]
        if row in self.privacy.takers[name]:
            self.do_taker(order[0], self.privacy.takers[name][row], moving)
        elif order[0] in STATE_STEPS:
            deed = STATE_STEPS[order[0]]
            deed(moving, order)
        else:
            self.do_other(name, row, moving)

    def do_taker(self, word, number, moving):
        """Does a load, store or unset of a private name."""
        if word == "load":
            stretch = moving.stretch(number)
            moving.take()
            moving.leave(stretch, (number, 0), ())
            moving.keep(number, True, stretch)
        elif word == "store":
            cell = moving.take()
            moving.take()
            moving.keep(number, True, cell[:2])
            moving.forget(number)
        else:
            moving.take()
            moving.keep(number, False, None)
            moving.forget(number)

    def do_other(self, name, row, moving):
        """Does an order of whose cells nothing is known."""
        proc = self.flow.procs[name]
        shape = self.walked[name].shapes[row]
        takes = self.flow.takes_of(proc, proc.orders[row])
        many = COUNTS[proc.orders[row][0]] if takes is None else len(takes)
        for _ in range(many):
            moving.take()
        for sort in self.flow.left_by(proc, proc.orders[row], takes, shape[len(shape) - many:]):
            moving.leave_any(sort)

    def elsewhere(self, name, row, moving, states):
        """What a row makes of its state that goes on at labels, or in other procs."""
        proc = self.flow.procs[name]
        order = proc.orders[row]
        word = order[0]
        if word == "jump":
            return [((name, proc.labels[order[1]]), moving.as_state())]
        if word == "unless":
            return self.behind_unless(name, row, moving)
        if word == "table":
            return self.behind_table(name, order, moving)
        if word == "call":
            return self.behind_call(name, row, moving, states)
        if word == "hand":
            moving.leave_any("@")
            return [((order[1], 0), self.first_state(order[1], True)), ((name, row + 1), moving.as_state())]
        return self.behind_far(proc, order) if word == "far" else []

    def behind_unless(self, name, row, moving):
        """Both ways of an unless that can be gone."""
        proc = self.flow.procs[name]
        low, high, _, tests = moving.take()
        found = []
        for number, is_true in ((row + 1, True), (proc.labels[proc.orders[row][1]], False)):
            if (high == 1) if is_true else (low == 0):
                found.extend(self.tried((name, number), moving, tests, is_true))
        return found

    def tried(self, place, moving, tests, is_true):
        """The state at a place behind tests, as a list, which is empty if nothing is left."""
        other = Moving(self.ends, moving.as_state())
        try:
            other.learn(tests, is_true)
        except NothingLeft:
            return []
        return [(place, other.as_state())]

    def behind_table(self, name, order, moving):
        """The ways of a table that can be gone, number by number."""
        low, high, stem, _ = moving.take()
        found = []
        for at, label in enumerate(order[2]):
            number = order[1] + at
            if label is not None and low <= number <= high:
                tests = () if stem is None else ((*stem, "eq", number, number),)
                found.extend(self.tried((name, self.flow.procs[name].labels[label]), moving, tests, True))
        return found

    def behind_call(self, name, row, moving, states):
        """What a call hands on, and what it comes back with."""
        other = self.flow.procs[name].orders[row][1]
        called = self.flow.procs[other]
        begin = len(moving.cells) - len(called.takes)
        names = []
        for number in self.privacy.names[other]:
            if number < len(called.takes):
                names.append((number, True, *moving.cells[begin + number][:2]))
            else:
                names.append((number, False, None, None))
        found = [((other, 0), (tuple(names), ()))]
        results = self.results(other, states)
        if results:
            for _ in called.takes:
                moving.take()
            self.leave_result(called.gives, results, moving)
            found.append(((name, row + 1), moving.as_state()))
        return found

    def results(self, name, states):
        """The list of the stretches of a proc's result, by its rows leave; None for what is not private."""
        proc = self.flow.procs[name]
        found = []
        for row in self.leaving[name]:
            if (name, row) in states:
                told = {known[0]: known[2:] for known in states[(name, row)][0]}
                number = len(proc.takes)
                if proc.gives == "-" or number not in told:
                    found.append(None)
                elif told[number][0] is not None:
                    found.append(told[number])
        return found

    def leave_result(self, sort, results, moving):
        if sort != "-" and results[0] is None:
            moving.leave_any(sort)
        elif sort != "-":
            moving.leave((min([low for low, _ in results]), max([high for _, high in results])), None, ())

    def behind_far(self, proc, order):
        """The label of a far, where all that is private may hold anything."""
        name = proc.around[order[1]]
        things = self.flow.procs[name].things
        names = [(number, False, *FULL[things[number]]) for number in self.privacy.names[name]]
        return [((name, self.flow.procs[name].labels[order[2]]), (tuple(names), ()))]


def rows_of(walk, word):
    """The rows of an order that are come to."""
    return [row for row in sorted(list(walk.shapes)) if walk.proc.orders[row][0] == word]


def reckoning_of(unit):
    """The reckoning of a unit: NotWhole, NotLet."""
    if unit.reckoning is None:
        unit.reckoning = Reckoning(unit)
    return unit.reckoning


def states_of(unit):
    """The dict of the claims of a unit: states by places, (proc, row)."""
    if unit.states is None:
        unit.states = settled(reckoning_of(unit))
    return unit.states


def settled(reckoning):
    """Likewise, found anew."""
    place, state = reckoning.beginning()
    states = {place: state}
    waiting = [place]
    while waiting:
        place = waiting.pop()
        for other, told in reckoning.made_behind(place, states):
            known = states.get(other)
            joined = joined_states(known, told)
            if joined != known:
                states[other] = joined
                waiting.append(other)
                if other[1] in reckoning.leaving[other[0]]:
                    # What a call leaves hangs on how the called proc is left.
                    waiting.extend([caller for caller in reckoning.calling[other[0]] if caller in states])
    return states
