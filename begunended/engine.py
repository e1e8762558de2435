"""The engine: it does rows of code, be they those of a program or those of a unit."""

from begunended.datadeeds import DATA_DEEDS
from begunended.errors import Trap
from begunended.filedeeds import FILE_DEEDS
from begunended.flowdeeds import FLOW_DEEDS
from begunended.frames import Frame
from begunended.heap import Heap
from begunended.numberdeeds import NUMBER_DEEDS
from begunended.storage import FileBox, fresh_place

CELLS = 2000


class RunParts:
    """What all runs of a program or of a unit have alike, and none changes.

    Procs are those of begunended.frames by name, the first one the program; aims the layouts that pointers
    name, handed_takes how many things each signature takes; table has all layouts.
    """

    def __init__(self, procs, aims, handed_takes, table):
        self.procs = procs
        self.aims = aims
        self.handed_takes = handed_takes
        self.table = table
        deeds = all_deeds()
        for proc in procs.values():
            proc.deeds = [deeds[row[0]] for row in proc.rows]


class Engine:
    """What runs: the frames that were entered, the newest last, pieces by their numbers, files by names.

    Fuel is how many steps may be begun, begun how many were; halted is None, or the end.
    """

    def __init__(self, parts, fuel):
        self.parts = parts
        self.procs = parts.procs
        self.many_frames = 1
        self.fuel = fuel
        self.begun = 0
        self.halted = None
        self.entered = []
        self.heap = Heap(CELLS)
        self.areas = {}
        self.boxes = {}

    def begin(self, inputs):
        """Enters the program's frame; inputs are contents of files by name, their things as cells."""
        program = list(self.procs.values())[0]
        things = []
        for number, (layout, is_own) in enumerate(program.things):
            things.append(fresh_place(layout, ("name", 1, number)) if is_own else None)
        for number, name in enumerate(program.outside_names):
            layout = program.things[number][0]
            self.boxes[name] = FileBox(layout, inputs.get(name), ("name", 1, number))
            things[number] = (self.boxes[name], 0, layout, ())
        self.entered.append(Frame(program, None, things, 1))

    def run(self):
        """Does rows until the end is come to, or the steps are done."""
        entered = self.entered
        try:
            while self.halted is None:
                frame = entered[-1]
                at = frame.at
                frame.at = at + 1
                deed = frame.proc.deeds[at]
                deed(self, frame, frame.proc.rows[at])
        except Trap as trap:
            frame = entered[-1]
            frame.at -= 1
            self.halted = ("trap", trap.value, frame.line)

    def do_steps(self, most):
        """Does so many orders, each with the lines and labels ahead of it, unless the end comes: how many."""
        entered = self.entered
        many = 0
        try:
            while many < most and self.halted is None:
                frame = entered[-1]
                proc = frame.proc
                at, line = proc.orders_ahead[frame.at]
                if line is not None:
                    frame.line = line
                frame.at = at + 1
                many += 1
                deed = proc.deeds[at]
                deed(self, frame, proc.rows[at])
        except Trap as trap:
            frame = entered[-1]
            frame.at -= 1
            self.halted = ("trap", trap.value, frame.line)
        return many


def all_deeds():
    """The dict of all orders, and the functions that do them."""
    deeds = dict(DATA_DEEDS)
    deeds.update(dict(NUMBER_DEEDS))
    deeds.update(dict(FILE_DEEDS))
    deeds.update(dict(FLOW_DEEDS))
    return deeds
