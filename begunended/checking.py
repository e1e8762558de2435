"""Checking of codes: one shape of the workspace for each row, or what is wrong."""

from begunended.errors import BadShape, NoRow, NotLet, NotWhole
from begunended.flows import Walk, flow_of, followed, is_row
from begunended.values import same_values


def led(unit, proc, row, shape):
    """To which rows a row leads from a shape, with which shapes; or by which word it is refused."""
    want_whole(unit)
    read = unit.proc_of(proc)
    if not is_row(row, read):
        raise NoRow(row)
    if not is_shape(unit, shape):
        raise BadShape(shape)
    word, rows = flow_of(unit).leads(read, row, shape, read.work)
    return ("to", tuple(rows)) if word is None else ("refused", word)


def checked(unit):
    """The shapes of all rows that are come to, or a way that is refused, or two ways that are unlike."""
    table = []
    for name, walk in walks_of(unit).items():
        if walk.fault is not None:
            return fault_told(name, walk)
        for row in sorted(list(walk.shapes)):
            table.append((name, row, walk.shapes[row]))
    return "let", tuple(table)


def walks_of(unit):
    """The dict of the walks of the procs of a unit that is whole, up to the first one with a fault: NotWhole."""
    want_whole(unit)
    if unit.proc_walks is None:
        unit.proc_walks = walks_found(unit)
    return unit.proc_walks


def walks_found(unit):
    """Likewise, found anew."""
    flow = flow_of(unit)
    found = {}
    for name, proc in flow.procs.items():
        found[name] = Walk(flow, name, proc.work)
        if found[name].fault is not None:
            break
    return found


def fault_told(name, walk):
    if walk.fault[0] == "unlike":
        _, row, ahead = walk.fault
        return "unlike", name, walk.way_to(row), (*walk.way_to(ahead), row)
    word, row = walk.fault
    return "refused", name, walk.way_to(row), word


def shows_checked(unit, value):
    """Whether a value is what checked may tell."""
    want_whole(unit)
    if not isinstance(value, tuple) or not value or not isinstance(value[0], str):
        return False
    if value[0] == "let":
        return same_values(value, checked(unit))
    if len(value) != 4 or not isinstance(value[1], str) or value[1] not in unit.proc_table:
        return False
    flow = flow_of(unit)
    proc = flow.procs[value[1]]
    shape = followed(flow, value[1], value[2], proc.work)
    if shape is None:
        return False
    if value[0] == "refused":
        word = flow.leads(proc, value[2][-1], shape, proc.work)[0]
        return word is not None and isinstance(value[3], str) and value[3] == word
    other = followed(flow, value[1], value[3], proc.work)
    return value[0] == "unlike" and other is not None and value[2][-1] == value[3][-1] and shape != other


def never_come(unit):
    """All rows but label and line that are not come to."""
    walks = walks_let(unit)
    found = []
    for name, walk in walks.items():
        for row, order in enumerate(walk.proc.orders):
            if row not in walk.shapes and order[0] != "label" and order[0] != "line":
                found.append((name, row))
    return tuple(found)


def walks_let(unit):
    """The dict of the walks of all procs of a unit that is whole and let: NotWhole, NotLet."""
    walks = walks_of(unit)
    for name, walk in walks.items():
        if walk.fault is not None:
            raise NotLet(fault_told(name, walk))
    return walks


def want_whole(unit):
    if unit.needs:
        raise NotWhole(unit.needs)


def is_shape(unit, value):
    """Whether this is a shape, all of whose names are told by the unit."""
    return isinstance(value, tuple) and all([isinstance(sort, str) and is_sort(unit, sort) for sort in value])


def is_sort(unit, sort):
    if sort.startswith("@"):
        return sort[1:] in unit.signature_headings
    is_place = sort.startswith("a[") and sort.endswith("]")
    layout = unit.table.of(sort[2:-1] if is_place else sort)
    if layout is None or not is_place and layout.form != "cell":
        return False
    return (layout.form == "arms" or layout.cells > 0) and all([name in unit.layout_texts for name in layout.aims])
