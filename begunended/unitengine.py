"""Engines that do the rows of units, and engines alike by themselves."""

from begunended.engine import Engine, RunParts
from begunended.frames import Frame, run_proc
from begunended.storage import Area


def unit_engine(unit, given):
    """An engine that stands at the begin of a unit; given are the contents of its files, as files keep them."""
    if unit.run_parts is None:
        unit.run_parts = parts_of_unit(unit)
    engine = Engine(unit.run_parts, 0)
    engine.begin(given)
    return engine


def parts_of_unit(unit):
    """What all runs of a unit have alike."""
    procs = {}
    for name, proc in unit.proc_table.items():
        many = len(proc.takes)
        made = run_proc(name, len(proc.around) - 1, proc.takes, proc.things[many:], unit.table)
        made.rows = proc.orders
        made.labels = proc.labels
        made.result = many if proc.gives != "-" else None
        made.outside_names = proc.outside_names
        made.orders_ahead = orders_ahead(proc.orders)
        procs[name] = made
    aims = {name: unit.table.of(layout) for name, layout in unit.layout_texts.items()}
    takes = {name: len(heading.takes) for name, heading in unit.signature_headings.items()}
    return RunParts(procs, aims, takes, unit.table)


def orders_ahead(orders):
    """For each row the next one that is an order, itself perhaps, and the line gone by on the way, or None."""
    found = []
    at, line = len(orders), None
    for number in range(len(orders) - 1, -1, -1):
        order = orders[number]
        if order[0] == "line":
            line = order[1] if line is None else line
        elif order[0] != "label":
            at, line = number, None
        found.append((at, line))
    return list(reversed(found))


class EngineCopy:
    """A copy of an engine that is being made; size is about how many values it holds."""

    def __init__(self, engine):
        self.area_twins = {}
        self.twins = {}
        self.size = 0
        self.made = Engine(engine.parts, engine.fuel)
        made = self.made
        made.many_frames = engine.many_frames
        made.begun = engine.begun
        made.halted = engine.halted
        made.heap = engine.heap.copied()
        made.areas = {number: (self.twin_area(area), layout) for number, (area, layout) in engine.areas.items()}
        made.boxes = {name: self.twin_area(box) for name, box in engine.boxes.items()}
        made.entered = [self.twin_frame(frame) for frame in engine.entered]

    def twin_frame(self, frame):
        """The copy of a frame; the frames that it hangs on were entered ahead of it."""
        link = None if frame.link is None else self.twins[frame.link.number]
        twin = Frame(frame.proc, link, [], frame.number)
        self.twins[frame.number] = twin
        twin.things = [self.twin_value(thing) for thing in frame.things]
        twin.stack = [self.twin_value(value) for value in frame.stack]
        twin.at = frame.at
        twin.line = frame.line
        self.size += len(twin.things) + len(twin.stack) + 1
        return twin

    def twin_value(self, value):
        """The copy of what lies on a workspace, or is a thing of a frame: a place, what was handed, or a value."""
        if not isinstance(value, tuple):
            return value
        if len(value) == 2:
            return value[0], self.twins[value[1].number]
        return self.twin_area(value[0]), *value[1:]

    def twin_area(self, area):
        """The copy of an area, or of a file."""
        if area in self.area_twins:
            return self.area_twins[area]
        if not isinstance(area, Area):
            return self.twin_box(area)
        twin = Area(list(area.cells), None, area.origin)
        twin.is_gone = area.is_gone
        self.area_twins[area] = twin
        self.size += len(area.cells)
        if area.box is not None:
            twin.box = self.twin_area(area.box)
        return twin

    def twin_box(self, box):
        """The copy of a file with its window, each of which knows the other."""
        twin = box.twin()
        self.area_twins[box] = twin
        twin.window = self.twin_area(box.window)
        self.size += len(twin.file.all_things or ())
        return twin


def engine_copied(engine):
    """An engine alike, by itself, and about how many values it holds."""
    copy = EngineCopy(engine)
    return copy.made, copy.size
