"""Running of programs: what stands in the files at the end, and what is seen on the way."""

from begunended.engine import Engine, RunParts
from begunended.errors import BadFuel, BadInputs, BadNumber, Trap
from begunended.files import are_contents
from begunended.frames import run_proc
from begunended.kindforms import layout_text
from begunended.kindlore import is_file
from begunended.kindvalues import value_cells, value_shown
from begunended.layoutforms import LayoutTable
from begunended.layouts import layouts
from begunended.plaincode import made_plan
from begunended.storage import cells_to_read
from begunended.values import is_integer

MOST_STEPS = 100000


def run(program, inputs, fuel):
    """The files of the head that were rewritten, and the end, behind so many steps at most."""
    given = inputs_wanted(program, inputs)
    if not is_number_of_steps(fuel):
        raise BadFuel(fuel)
    runner = Runner(program, given, fuel)
    return runner.files_told(), runner.engine.halted


def seen(program, inputs, number):
    """What is there ahead of the step with this number; the end if it ends before."""
    given = inputs_wanted(program, inputs)
    if not is_number_of_steps(number):
        raise BadNumber(number)
    runner = Runner(program, given, number - 1)
    if runner.engine.halted != ("on",):
        return runner.engine.halted
    return runner.stop_told()


def is_number_of_steps(value):
    return is_integer(value) and 1 <= value <= MOST_STEPS


def inputs_wanted(program, inputs):
    """The dict of inputs, things as tuples of their cells: BadInputs for what are none."""
    if not isinstance(inputs, tuple):
        raise BadInputs(inputs)
    kinds = {telling.name: telling.kind for telling in program.facts.head_files if telling.name != "output"}
    table = LayoutTable()
    given = {}
    for row in inputs:
        if not isinstance(row, tuple) or len(row) != 2 or not isinstance(row[0], str):
            raise BadInputs(inputs)
        name, contents = row
        if name not in kinds or name in given:
            raise BadInputs(inputs)
        given[name] = contents_read(kinds[name], contents, table)
        if given[name] is None:
            raise BadInputs(inputs)
    return given


def contents_read(kind, contents, table):
    """The contents of a file of this kind as it keeps them, None for what are none."""
    if kind.form == "text":
        return contents if are_contents("text", contents) else None
    if not isinstance(contents, tuple):
        return None
    if not contents:
        return ()
    layout = table.of(layout_text(kind.member))
    things = [value_cells(kind.member, layout, value) for value in contents]
    return None if None in things else tuple([tuple(cells) for cells in things])


class Runner:
    """A program that was run, for so many steps at most."""

    def __init__(self, program, given, fuel):
        plan = made_plan(program)
        if plan.run_parts is None:
            plan.run_parts = parts_of_program(program, plan)
        self.plan = plan
        self.by_name = {code.proc_name(): code for code in plan.codes.values()}
        self.engine = Engine(plan.run_parts, fuel)
        self.engine.begin(given)
        self.engine.run()

    def files_told(self):
        """The names and contents of all files of the head that were rewritten."""
        found = []
        for telling in self.plan.facts.head_files:
            box = self.engine.boxes[telling.name]
            if box.was_rewritten:
                found.append((telling.name, self.contents_told(telling.kind, box)))
        return tuple(sorted(found))

    def contents_told(self, kind, box):
        things = box.file.all_things
        if kind.form == "text":
            return things
        return tuple([value_shown(kind.member, box.member, cells, 0) for cells in things])

    def stop_told(self):
        """The statement that is next, the routines that were entered, and the names of the newest one."""
        frame = self.engine.entered[-1]
        token = frame.proc.rows[frame.at][2]
        line, column = self.plan.facts.place(token)
        routines = [self.by_name[row.proc.name].telling.name for row in self.engine.entered]
        return "stop", line, column, tuple(routines), self.names_told(frame)

    def names_told(self, frame):
        code = self.by_name[frame.proc.name]
        found = {}
        for telling in code.named:
            # A result is told by the routine's name, which any other thing may hide.
            if telling.word != "routine" or telling.name not in found:
                found[telling.name] = thing_shown(telling, frame.things[code.numbers[telling]])
        return tuple([(name, found[name]) for name in sorted(found)])


def parts_of_program(program, plan):
    """What all runs of a program have alike."""
    table = LayoutTable()
    procs = {}
    for telling, code in plan.codes.items():
        name = code.proc_name()
        proc = run_proc(name, code.depth, code.takes, code.names, table)
        proc.rows = code.rows
        proc.labels = code.label_rows
        proc.result = code.numbers[telling] if telling.calling == "function" else None
        if telling.outside is None:
            proc.outside_names = tuple([file.name for file in plan.facts.head_files])
        procs[name] = proc
    aims = {name: table.of(layout) for name, layout in layouts(program)}
    takes = {plan.signature(telling): len(telling.parameters) for telling in plan.headings}
    return RunParts(procs, aims, takes, table)


def thing_shown(telling, place):
    """The value of a parameter, a variable, or a result, in this place."""
    if telling.calling is not None and telling.word == "parameter":
        return "routine"
    if is_file(telling.kind):
        return "file"
    if place[0].box is not None:
        return "window"
    try:
        cells = cells_to_read(place)
    except Trap as trap:
        return trap.value
    return value_shown(telling.kind, place[2], cells, place[1])
