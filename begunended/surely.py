"""What is sure at each row: claims, whether others hold likewise, rows that never trap, ways on which a name is set."""

from begunended.errors import BadValue, NoRow
from begunended.flows import is_row
from begunended.settling import reckoning_of, states_of
from begunended.states import joined_states
from begunended.stretches import CONTRARY, FULL
from begunended.surerows import SureRows
from begunended.values import is_integer

def claims(unit, proc, row):
    """What is claimed at a row, None without a state."""
    reckoning_of(unit)
    want_row(unit, proc, row)
    return states_of(unit).get((proc, row))


def want_row(unit, proc, row):
    """Wants a proc, and the number of one of its rows: NoProc, NoRow."""
    if not is_row(row, unit.proc_of(proc)):
        raise NoRow(row)


def all_claims(unit):
    """What is claimed at all rows with states."""
    states = states_of(unit)
    numbers = {name: number for number, name in enumerate(unit.procs)}
    places = sorted([(numbers[name], row, name) for name, row in states])
    return tuple([(name, row, *states[(name, row)]) for _, row, name in places])


def closed(unit, value):
    """Whether a value is claims of some rows that no row changes, or adds to."""
    reckoning = reckoning_of(unit)
    states = states_read(reckoning, value)
    if states is None:
        return False
    told = [reckoning.beginning()]
    for place in states:
        told.extend(reckoning.made_behind(place, states))
    for place, state in told:
        if place not in states or joined_states(states[place], state) != states[place]:
            return False
    return True


def sure_rows(unit, proc):
    """The rows of a proc that never come, surely go one way, or surely never trap."""
    reckoning = reckoning_of(unit)
    read = unit.proc_of(proc)
    sure = SureRows(reckoning, states_of(unit))
    found = []
    for row, order in enumerate(read.orders):
        word = sure.word_of(proc, row)
        if word is not None and order[0] != "label" and order[0] != "line":
            found.append((row, word))
    return tuple(found)


def set_ways(unit, proc, row, name):
    """Whether each way to a row has a private name set; any way that has not."""
    way = unset_way(private_ways(unit, proc, row, name), row)
    return ("set",) if way is None else ("way", way)


def shows_set_ways(unit, proc, row, name, value):
    """Whether a value is what set_ways may tell."""
    ways = private_ways(unit, proc, row, name)
    if not isinstance(value, tuple) or not value or not isinstance(value[0], str):
        return False
    if len(value) == 1:
        return value[0] == "set" and unset_way(ways, row) is None
    return len(value) == 2 and value[0] == "way" and ways.is_unset_way(value[1], row)


class SetWays:
    """The ways of a proc, with what its rows do to a private name: steps of (row, whether it is set)."""

    def __init__(self, reckoning, name, number):
        self.walk = reckoning.walked[name]
        self.number = number
        self.takers = reckoning.privacy.takers[name]
        is_taken = number < len(self.walk.proc.takes)
        self.begins = [(row, is_taken and row == 0) for row in reckoning.flow.entries(name)]
        self.flow = reckoning.flow

    def led_on(self, row, is_set):
        """The steps that a step leads to."""
        if row in self.takers and self.takers[row] == self.number:
            is_set = self.walk.proc.orders[row][0] != "unset"
        rows = self.flow.leads(self.walk.proc, row, self.walk.shapes[row], self.walk.proc.work)[1]
        return [(number, is_set) for number, _ in rows]

    def is_unset_way(self, value, row):
        """Whether a value is a way to a row with the name not set there."""
        if not isinstance(value, tuple) or not value or not all([is_row(part, self.walk.proc) for part in value]):
            return False
        steps = [step for step in self.begins if step[0] == value[0]]
        for number in value[1:]:
            if steps:
                steps = [step for step in self.led_on(steps[0][0], steps[0][1]) if step[0] == number]
        return value[-1] == row and len(steps) > 0 and not steps[0][1]


def private_ways(unit, proc, row, name):
    """The ways of a proc: BadValue unless a name is a private one's number."""
    reckoning = reckoning_of(unit)
    want_row(unit, proc, row)
    if not is_integer(name) or name not in reckoning.privacy.names[proc]:
        raise BadValue(name)
    return SetWays(reckoning, proc, name)


def unset_way(ways, row):
    """A shortest way to a row on which the name is not set there, None without one."""
    ahead = {step: None for step in ways.begins}
    steps = list(ways.begins)
    while steps and (row, False) not in ahead:
        found = []
        for step in steps:
            for other in ways.led_on(step[0], step[1]):
                if other not in ahead:
                    ahead[other] = step
                    found.append(other)
        steps = found
    if (row, False) not in ahead:
        return None
    way = []
    step = (row, False)
    while step is not None:
        way.append(step[0])
        step = ahead[step]
    return tuple(list(reversed(way)))


def states_read(reckoning, value):
    """The dict of the states that a value tells by places, None unless it is claims for rows that are come to."""
    if not isinstance(value, tuple) or not all([isinstance(row, tuple) and len(row) == 4 for row in value]):
        return None
    states = {}
    ahead = (-1, -1)
    numbers = {name: number for number, name in enumerate(reckoning.walked)}
    for name, row, names, cells in value:
        if not isinstance(name, str) or name not in numbers or not is_integer(row):
            return None
        if row not in reckoning.walked[name].shapes or (numbers[name], row) <= ahead:
            return None
        ahead = (numbers[name], row)
        if not are_names(reckoning, name, names) or not are_cells(reckoning, name, row, cells):
            return None
        states[(name, row)] = (names, cells)
    return states if reckoning.beginning()[0] in states else None


def are_names(reckoning, name, names):
    """Whether this tells of all private names of a proc what may be told of them."""
    things = reckoning.flow.procs[name].things
    numbers = reckoning.privacy.names[name]
    if not isinstance(names, tuple) or len(names) != len(numbers):
        return False
    for number, row in zip(numbers, names):
        if not isinstance(row, tuple) or len(row) != 4 or not isinstance(row[1], bool):
            return False
        if not is_integer(row[0]) or row[0] != number:
            return False
        is_none = row[2] is None and row[3] is None
        if not is_none and not is_stretch(reckoning, row[2:], things[number]):
            return False
    return True


def is_stretch(reckoning, value, sort):
    """Whether this is a stretch of two ends, within the full one of a sort."""
    if not is_integer(value[0]) or not is_integer(value[1]) or value[0] > value[1]:
        return False
    if value[0] < FULL[sort][0] or value[1] > FULL[sort][1]:
        return False
    return value[0] in reckoning.ends.known and value[1] in reckoning.ends.known


def are_cells(reckoning, name, row, cells):
    """Whether this tells of all things on a workspace what may be told of them."""
    shape = reckoning.walked[name].shapes[row]
    if not isinstance(cells, tuple) or len(cells) != len(shape):
        return False
    for sort, cell in zip(shape, cells):
        if sort not in FULL:
            if cell is not None:
                return False
        elif not isinstance(cell, tuple) or len(cell) != 4 or not is_stretch(reckoning, cell[:2], sort):
            return False
        elif not is_stem(reckoning, name, cell[2]) or not are_tests(reckoning, name, sort, cell[3]):
            return False
    return True


def is_stem(reckoning, name, stem):
    """Whether this is None, or a private name and an integer."""
    if stem is None:
        return True
    if not isinstance(stem, tuple) or len(stem) != 2:
        return False
    return is_integer(stem[0]) and is_integer(stem[1]) and stem[0] in reckoning.privacy.names[name]


def are_tests(reckoning, name, sort, tests):
    """Whether this is an ascending tuple of tests, no two of which are alike but for their stretches."""
    if not isinstance(tests, tuple) or tests and sort != "t":
        return False
    for test in tests:
        if not isinstance(test, tuple) or len(test) != 5 or not is_stem(reckoning, name, test[:2]):
            return False
        if not isinstance(test[2], str) or test[2] not in CONTRARY or not is_stretch(reckoning, test[3:], "n"):
            return False
    return all([one[:3] < other[:3] for one, other in zip(tests, tests[1:])])
