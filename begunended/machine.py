"""The machine: it does the orders of a unit, step by step, and goes back."""

from begunended.checking import walks_let
from begunended.contents import cell_contents, contents_of, file_contents, inputs_read, place_contents
from begunended.errors import BadFuel, BadNumber, NoFrame, NoPlace, NoRow
from begunended.flows import is_row
from begunended.running import is_number_of_steps
from begunended.unitengine import engine_copied, unit_engine
from begunended.values import is_integer, same_values

FEWEST_STEPS = 256


def run_unit(unit, inputs, fuel):
    """The files of a unit that were rewritten, and the end, behind so many steps at most."""
    machine = Machine(unit, inputs)
    if not is_number_of_steps(fuel):
        raise BadFuel(fuel)
    engine = machine.engine
    engine.do_steps(fuel)
    return files_told(engine), ("on",) if engine.halted is None else engine.halted


def files_told(engine):
    """The names and contents of all files of an engine that were ever rewritten, as they are now."""
    boxes = engine.boxes
    return tuple([(name, file_contents(boxes[name])) for name in sorted(list(boxes)) if boxes[name].was_rewritten])


class Machine:
    """A machine that does a unit: engine is what runs, shapes those of each proc's rows.

    Held are engines as they were behind so many steps, the latest last, from which a way back is done anew.
    """

    def __init__(self, unit, inputs):
        walks = walks_let(unit)
        self.engine = unit_engine(unit, inputs_read(unit, inputs))
        self.unit = unit
        self.inputs = inputs
        self.shapes = {name: walk.shapes for name, walk in walks.items()}
        self.steps = 0
        self.ended = None
        self.at = None
        self.held = []
        self._hold()
        self._tell()

    @property
    def at_line(self):
        """The line of the running frame, 0 without one."""
        entered = self.engine.entered
        return entered[-1].line if entered else 0

    @property
    def frames(self):
        """The frames that are there, the newest first."""
        found = []
        caller = 0
        for frame in self.engine.entered:
            link = 0 if frame.link is None else frame.link.number
            found.append((frame.number, frame.proc.name, link, caller, frame.at))
            caller = frame.number
        return tuple(list(reversed(found)))

    def files(self):
        """The files that were ever rewritten, as they are now."""
        return files_told(self.engine)

    def workspace(self):
        """What lies on the workspace of the running frame, from the bottom."""
        if self.at is None:
            return ()
        proc, row = self.at
        stack = self.engine.entered[-1].stack
        return tuple([(sort, value_told(sort, value)) for sort, value in zip(self.shapes[proc][row], stack)])

    def step(self):
        """Does the next step, if there is one: the end, None while it can go on."""
        self._go(1)
        return self.ended

    def run(self, most):
        """Does so many steps, unless the end comes: how many were done."""
        if not is_number_of_steps(most):
            raise BadFuel(most)
        ahead = self.steps
        self._go(most)
        return self.steps - ahead

    def run_to(self, proc, row, most):
        """Does steps until this row is next, or so many: whether it is."""
        if not is_row(row, self.unit.proc_of(proc)):
            raise NoRow(row)
        if not is_number_of_steps(most):
            raise BadFuel(most)
        for _ in range(most):
            self._go(1)
            if self.at == (proc, row) or self.ended is not None:
                break
        return self.at == (proc, row)

    def back(self, many):
        """Takes the last so many steps back."""
        if not is_integer(many) or not 0 <= many <= self.steps:
            raise BadNumber(many)
        if many == 0:
            return
        wanted = self.steps - many
        while self.held[-1][0] > wanted:
            self.held.pop()
        self.steps, engine, _ = self.held[-1]
        self.engine = engine_copied(engine)[0]
        self._go(wanted - self.steps)

    def contents(self, frame, number):
        """The contents of a thing of a frame."""
        found = self._frame(frame)
        if not is_integer(number) or not 0 <= number < len(found.things):
            raise NoPlace(number)
        thing = found.things[number]
        if thing is None:
            return None
        return handed_told(thing) if len(thing) == 2 else place_contents(thing)

    def piece(self, number):
        """The contents of a piece that is held."""
        if not is_integer(number) or number not in self.engine.areas:
            raise NoPlace(number)
        area, layout = self.engine.areas[number]
        return contents_of(layout, area.cells, 0, False)

    def linked(self, frame):
        """The numbers of the frames to which links lead from a frame, itself first."""
        found = []
        link = self._frame(frame)
        while link is not None:
            found.append(link.number)
            link = link.link
        return tuple(found)

    def copied(self):
        """A machine alike, by itself."""
        other = Machine(self.unit, self.inputs)
        other.engine = engine_copied(self.engine)[0]
        other.held = list(self.held)
        other.steps = self.steps
        other._tell()
        return other

    def __eq__(self, other):
        if not isinstance(other, Machine):
            return False
        return self.unit == other.unit and self.steps == other.steps and same_values(self.inputs, other.inputs)

    def _frame(self, number):
        """The frame with this number: NoFrame unless it is there."""
        if is_integer(number):
            for frame in self.engine.entered:
                if frame.number == number:
                    return frame
        raise NoFrame(number)

    def _go(self, many):
        """Does so many steps, unless the end comes, and holds what runs now and then."""
        wanted = self.steps + many
        while self.steps < wanted and self.engine.halted is None:
            steps, _, apart = self.held[-1]
            if self.steps >= steps + apart:
                self._hold()
                steps, _, apart = self.held[-1]
            self.steps += self.engine.do_steps(min(wanted, steps + apart) - self.steps)
        self._tell()

    def _hold(self):
        """Holds what runs now; the more there is, the more steps until the next time."""
        engine, size = engine_copied(self.engine)
        self.held.append((self.steps, engine, max(FEWEST_STEPS, size)))

    def _tell(self):
        """Tells where the machine stands now."""
        engine = self.engine
        self.ended = engine.halted
        self.at = None
        if engine.entered:
            frame = engine.entered[-1]
            self.at = (frame.proc.name, frame.at)


def value_told(sort, value):
    """What lies on a workspace as this sort: of a place where it begins."""
    if sort.startswith("a["):
        return value[0].origin
    return handed_told(value) if sort.startswith("@") else cell_contents(sort, value)


def handed_told(value):
    """The proc and the link of what was handed."""
    proc, link = value
    return proc.name, link.number
