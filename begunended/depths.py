"""How much code needs: things on workspaces, and frames."""

from begunended.checking import walks_let, want_whole
from begunended.flows import flow_of, followed, is_same_heading
from begunended.units import Unit


def work_needed(unit, proc):
    """The greatest number of things at any row of a proc, and a way to such a row."""
    want_whole(unit)
    unit.proc_of(proc)
    walk = walks_let(unit)[proc]
    number = most_things(walk)
    row = [row for row, shape in walk.shapes.items() if len(shape) == number][0]
    return number, walk.way_to(row)


def most_things(walk):
    return max([len(shape) for shape in walk.shapes.values()])


def shows_work_needed(unit, proc, value):
    """Whether a value is what work_needed may tell."""
    number = work_needed(unit, proc)[0]
    if not isinstance(value, tuple) or len(value) != 2 or isinstance(value[0], bool) or value[0] != number:
        return False
    shape = followed(flow_of(unit), proc, value[1], unit.proc_table[proc].work)
    return isinstance(value[0], int) and shape is not None and len(shape) == number


def least_work(unit):
    """The unit whose rows work tell the least numbers with which it is let."""
    numbers = [most_things(walk) for walk in walks_let(unit).values()]
    rows = []
    for row in unit.text.split("\n"):
        if row.startswith("work "):
            row = "work " + str(numbers[0])
            numbers = numbers[1:]
        rows.append(row)
    return Unit("\n".join(rows))


def calls(unit):
    """For each proc those that its rows call, or may call as what was handed."""
    found = calls_found(unit)
    return tuple([(name, tuple([other for other in found if other in found[name]])) for name in found])


def calls_found(unit):
    """The dict of procs and the dicts of those that they call."""
    walks = walks_let(unit)
    handed = []
    for walk in walks.values():
        for order in orders_come_to(walk):
            if order[0] == "hand":
                handed.append((order[1], unit.signature_headings[order[2]]))
    found = {}
    for name, walk in walks.items():
        found[name] = {}
        for order in orders_come_to(walk):
            if order[0] == "call":
                found[name][order[1]] = True
            elif order[0] == "callh":
                heading = unit.signature_headings[order[1]]
                for other, told in handed:
                    if is_same_heading(heading, told):
                        found[name][other] = True
    return found


def orders_come_to(walk):
    return [walk.proc.orders[row] for row in walk.shapes]


def never_called(unit):
    """The procs to which no chain of calls leads from the program, it aside."""
    found = calls_found(unit)
    reached = reached_from(unit.procs[0], found)
    return tuple([name for name in unit.procs[1:] if name not in reached])


def reached_from(name, found):
    """The dict of the procs to which chains of calls lead from one, itself among them."""
    reached = {name: True}
    waiting = [name]
    while waiting:
        calling = waiting.pop()
        for other in found[calling]:
            if other not in reached:
                reached[other] = True
                waiting.append(other)
    return reached


def frames_needed(unit):
    """The greatest number of frames of a chain of calls, and such a chain; or a ring of calls."""
    found = calls_found(unit)
    program = unit.procs[0]
    for name in reached_from(program, found):
        ring = ring_of(name, found)
        if ring is not None:
            return "ring", ring
    chain = longest_chain(program, found)
    return "most", len(chain), chain


def ring_of(name, found):
    """A shortest ring of calls through this proc, None without one."""
    chains = {name: (name,)}
    waiting = [name]
    while waiting:
        behind = []
        for one in waiting:
            if name in found[one]:
                return chains[one]
            for other in found[one]:
                if other not in chains:
                    chains[other] = (*chains[one], other)
                    behind.append(other)
        waiting = behind
    return None


def longest_chain(program, found):
    """The longest chain of calls from the program on, where there are no rings."""
    chains = {}
    waiting = [program]
    while waiting:
        name = waiting[-1]
        open_names = [other for other in found[name] if other not in chains]
        if open_names:
            waiting.append(open_names[0])
        else:
            waiting.pop()
            longest = ()
            for other in found[name]:
                if len(chains[other]) > len(longest):
                    longest = chains[other]
            chains[name] = (name, *longest)
    return chains[program]


def shows_frames_needed(unit, value):
    """Whether a value is what frames_needed may tell."""
    found = calls_found(unit)
    told = frames_needed(unit)
    if not isinstance(value, tuple) or len(value) != len(told) or not isinstance(value[0], str):
        return False
    names = value[-1]
    if value[0] != told[0] or not isinstance(names, tuple) or not names:
        return False
    if not all([isinstance(name, str) and name in found for name in names]):
        return False
    if not all([other in found[name] for name, other in zip(names, names[1:])]):
        return False
    if told[0] == "ring":
        return names[0] in reached_from(unit.procs[0], found) and names[0] in found[names[-1]]
    is_number = isinstance(value[1], int) and not isinstance(value[1], bool)
    return is_number and value[1] == told[1] and len(names) == told[1] and names[0] == unit.procs[0]
