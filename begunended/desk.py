"""A desk: a program's run, stop by stop, to and fro, with edits; all that is done can be taken back."""

from begunended.compiling import plan_compiled
from begunended.deskruns import DeskRun
from begunended.edits import edited
from begunended.errors import BadLine, Ended, Long, NoPlace, NoTrial, NothingAhead, NothingToRedo, NothingToUndo
from begunended.values import is_integer

def journal_rows(desk):
    """The first text, the inputs and the deeds that stand, as rows."""
    rows = counted_rows("program", desk.first_text.split("\n"))
    for name, contents in desk.inputs:
        rows = rows + counted_rows("input " + name, contents.split("\n"))
    deeds = []
    moment = desk.moment
    while moment is not None:
        deeds.append(moment.deed_rows)
        moment = moment.former
    return rows + ["deeds"] + [row for deed_rows in reversed(deeds) for row in deed_rows]


def counted_rows(word, rows):
    """Rows with one ahead that tells how many they are."""
    return [f"{word} {len(rows)}", *rows]


MOST_STOPS = 2000


class Moment:
    """How a desk stands behind a deed: its run, the marked lines, the stop, and the end, None ahead of it.

    Deed_rows are the journal's rows of the deed, former the moment ahead of it, None without a deed;
    many_deeds is how many stand.
    """

    def __init__(self, desk_run, marks, number, halted):
        self.desk_run = desk_run
        self.marks = marks
        self.number = number
        self.halted = halted
        self.deed_rows = ()
        self.former = None
        self.many_deeds = 0


class Trial:
    """A block that a desk goes through by trial: what was there when it was entered.

    Wish is None until the block is to be kept: what leaves a block asks of things whether they are None alone.
    """

    def __init__(self, desk):
        self.desk = desk
        self.wish = None
        self.outside = None
        self.moment = None
        self.undone = ()

    def __enter__(self):
        desk = self.desk
        self.outside = desk.innermost
        self.moment = desk.moment
        self.undone = desk.undone
        desk.innermost = self
        return desk

    def __exit__(self, kind, value, trace):
        desk = self.desk
        desk.innermost = self.outside
        if kind is not None or self.wish is None:
            desk.moment = self.moment
            desk.undone = self.undone


class Desk:
    """A desk over a program and inputs; undone are the moments that can be done again, the next one last."""

    def __init__(self, program, inputs):
        plan_compiled(program)
        self.first_text = program.text
        self.inputs = inputs
        self.moment = Moment(DeskRun(program, inputs), (), 1, None)
        self.undone = ()
        self.innermost = None

    @property
    def program(self):
        return self.moment.desk_run.text_run

    @property
    def marked(self):
        """The marked lines."""
        return self.moment.marks

    @property
    def stop(self):
        """The number of the stop; behind the end how many there were, and one."""
        return self.moment.number

    @property
    def done(self):
        """How many deeds stand."""
        return self.moment.many_deeds

    def __len__(self):
        return len(self.moment.desk_run.lines)

    def __contains__(self, value):
        return is_integer(value) and value in self.moment.marks

    def __eq__(self, other):
        return isinstance(other, Desk) and journal_rows(self) == journal_rows(other)

    def mark(self, line):
        """Marks a line, or takes its mark away."""
        moment = self.moment
        if not is_integer(line) or not 1 <= line <= len(moment.desk_run.lines):
            raise BadLine(line)
        marks = [mark for mark in moment.marks if mark != line]
        if line not in moment.marks:
            marks = sorted([*marks, line])
        self._do(Moment(moment.desk_run, tuple(marks), moment.number, moment.halted), (f"mark {line}",))

    def step(self):
        """Goes to the next stop."""
        self._go_on("step", 0)

    def over(self):
        """Goes to the first further stop in the same frame, or the first behind it if it is left."""
        self._go_on("over", self._run().frame().number if self.moment.halted is None else 0)

    def go(self):
        """Goes to the first further stop at a statement that begins on a marked line."""
        self._go_on("go", 0)

    def back(self):
        """Goes to the stop ahead."""
        moment = self.moment
        if moment.number == 1:
            raise NothingAhead(None)
        self._do(Moment(moment.desk_run, moment.marks, moment.number - 1, None), ("back",))

    def edit(self, first, last, lines):
        """Puts other lines in the place of some: the desk stands at the first stop of the new program."""
        program = edited(self.program, first, last, lines)
        plan_compiled(program)
        desk_run = DeskRun(program, self.inputs)
        behind = first + len(lines) - last - 1
        marks = [mark for mark in self.moment.marks if mark < first]
        marks = marks + [mark + behind for mark in self.moment.marks if mark > last]
        self._do(Moment(desk_run, tuple(marks), 1, None), (f"edit {first} {last} {len(lines)}", *lines))

    def undo(self):
        """Takes the last deed back."""
        if self.moment.former is None:
            raise NothingToUndo(None)
        self.undone = (*self.undone, self.moment)
        self.moment = self.moment.former

    def redo(self):
        """Does the deed again that was taken back last."""
        if not self.undone:
            raise NothingToRedo(None)
        self.moment = self.undone[-1]
        self.undone = self.undone[:-1]

    def where(self):
        """The line and column of the stop's statement, None behind the end."""
        return self._run().place() if self.moment.halted is None else None

    def ending(self):
        """The run's end, None ahead of it."""
        return self.moment.halted

    def value(self, name):
        """The value of what a name means at this stop."""
        if self.moment.halted is not None:
            raise NoPlace(name)
        return self._run().value_told(name)

    def callers(self):
        """The routines of the frames, the newest first, each with its line."""
        return self._run().callers() if self.moment.halted is None else ()

    def written(self):
        """The files as they are now."""
        return self._run().runner.files_told()

    def trial(self):
        """A block behind which all is as it was, unless it is kept."""
        return Trial(self)

    def keep(self):
        """Keeps what the innermost block does."""
        innermost = self.innermost
        if innermost is None:
            raise NoTrial(None)
        innermost.wish = True

    def tried(self, look, *, keep=False):
        """What a look at the desk tells, within a block of its own."""
        with self.trial():
            told = look(self)
            if keep is True:
                self.keep()
        return told

    def copy(self):
        """A desk alike, by itself."""
        other = Desk(self.program, self.inputs)
        other.first_text = self.first_text
        other.moment = self.moment
        other.undone = self.undone
        return other

    def _run(self):
        """The run, which stands where the desk does."""
        run = self.moment.desk_run
        run.go_to(self.moment.number)
        return run

    def _go_on(self, word, frame):
        """Goes on to the first further stop that is wanted, or behind the end; frame is that of the stop."""
        moment = self.moment
        if moment.halted is not None:
            raise Ended(moment.halted)
        run = moment.desk_run
        number = moment.number + 1
        halted = run.go_to(number)
        while halted is None and number <= MOST_STOPS and not self._is_wanted(run, word, frame):
            number += 1
            halted = run.go_to(number)
        if halted is None and number > MOST_STOPS:
            raise Long(MOST_STOPS)
        self._do(Moment(run, moment.marks, number, halted), (word,))

    def _is_wanted(self, run, word, frame):
        """Whether a deed ends at the stop at which a run stands."""
        if word == "over":
            return frame not in run.frame_numbers()[:-1]
        return word == "step" or run.place()[0] in self.moment.marks

    def _do(self, moment, rows):
        """Keeps a deed that was done."""
        moment.deed_rows = rows
        moment.former = self.moment
        moment.many_deeds = self.moment.many_deeds + 1
        self.moment = moment
        self.undone = ()
