"""Runs that a desk goes through: they stand at any of their stops, and go on and back."""

from begunended.errors import BadInputs
from begunended.running import Runner, inputs_wanted
from begunended.showing import value_in
from begunended.unitengine import engine_copied

FEWEST_STOPS = 50
# So many values are copied in about the time in which a statement is done.
VALUES_A_STOP = 20


class DeskRun:
    """A run of a program on inputs; lines are those of its text.

    Held are engines as they were behind so many stops, the latest last, from which a way back is done anew;
    the first one is held when the run first goes on.
    """

    def __init__(self, program, inputs):
        given = inputs_wanted(program, inputs)
        if not all([isinstance(contents, str) for contents in given.values()]):
            raise BadInputs(inputs)
        self.text_run = program
        self.lines = program.text.split("\n")
        self.runner = Runner(program, given, 0)
        self.held = []

    def hold(self):
        """Holds what runs now; the more there is, the more stops until the next time."""
        engine, size = engine_copied(self.runner.engine)
        self.held.append((engine.begun, engine, max(FEWEST_STOPS, size // VALUES_A_STOP)))

    def go_to(self, number):
        """Stands at the stop with this number, or behind the end if there is none: the end, or None."""
        steps = number - 1
        runner = self.runner
        if runner.engine.begun > steps:
            while self.held[-1][0] > steps:
                self.held.pop()
            runner.engine = engine_copied(self.held[-1][1])[0]
        engine = runner.engine
        while engine.halted == ("on",) and engine.begun < steps:
            if not self.held or engine.begun >= self.held[-1][0] + self.held[-1][2]:
                self.hold()
            engine.fuel = min(steps, self.held[-1][0] + self.held[-1][2])
            engine.halted = None
            engine.run()
        return None if engine.halted == ("on",) else engine.halted

    def frame(self):
        """The frame that runs."""
        return self.runner.engine.entered[-1]

    def frame_numbers(self):
        """The numbers of the frames that are there, the newest last."""
        return [frame.number for frame in self.runner.engine.entered]

    def place(self):
        """The line and the column of the stop's statement."""
        frame = self.frame()
        return self.runner.plan.facts.place(frame.proc.rows[frame.at][2])

    def callers(self):
        """The routines of all frames, the newest first, each with the line at which it is."""
        entered = list(reversed(self.runner.engine.entered))
        lines = [self.place()[0]] + [frame.line for frame in entered[1:]]
        return tuple([(self.code_of(frame).telling.name, line) for frame, line in zip(entered, lines)])

    def code_of(self, frame):
        return self.runner.by_name[frame.proc.name]

    def value_told(self, name):
        """The value of what a name means at this stop: NoPlace."""
        return value_in(self.runner.plan, self.code_of(self.frame()), self.frame(), name)
