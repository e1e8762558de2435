"""What holds of all programs (section 3): their plain units are let, mean the same, and never are stuck."""

import random
import unittest

from begunended.checking import checked, shows_checked
from begunended.compiling import compiled
from begunended.engine import Engine
from begunended.errors import BadUnit, StageError, TooLong, Trap
from begunended.frames import run_proc
from begunended.program import Program
from begunended.running import inputs_wanted, run, seen
from begunended.stops import numbers, stops
from begunended.units import Unit
from tests.common import want_let
from tests.random_programs import random_program

INPUTS = (("input", "12 abc 4 7\nx y 9\n3"),)
OTHERS = (
    "drop", "dup", "load", "store", "move", "unset", "aim", "window", "new", "gone", "reset", "put", "eof", "readn", "writec", "writes",
    "add", "mod", "neg", "odd", "ordc", "chr", "tru", "and", "not", "eq", "lt", "same", "seq", "one", "span", "in", "leave", "jump 0",
    "unless 1", "num 3", "truth 1", "sign 65", "set 1 2", "string 65 66", "field 0", "field 2", "arm 0", "become 1", "lives 1 0 0 1 1",
    "index 3 5", "look 0 9", "text eq", "table 0 0 1", "place 0 1", "place 0 2", "place 1 1", "bind 8", "call p1", "far 1 0")


def programs(seeds):
    for seed in seeds:
        try:
            yield seed, Program(random_program(seed))
        except StageError:
            pass


def engine_of(unit, given):
    """The engine that does a unit's own rows."""
    procs = {}
    for name, proc in unit.proc_table.items():
        procs[name] = run_proc(name, len(proc.around) - 1, proc.takes, proc.things[len(proc.takes):], unit.table)
        procs[name].rows = proc.orders
        procs[name].labels = proc.labels
        procs[name].result = len(proc.takes) if proc.gives != "-" else None
        procs[name].outside_names = proc.outside_names
    aims = {name: unit.table.of(text) for name, text in unit.layout_texts.items()}
    takes = {name: len(heading.takes) for name, heading in unit.signature_headings.items()}
    engine = Engine(procs, aims, takes, 1)
    engine.begin(procs[unit.procs[0]], given)
    return engine


def steps_done(engine, most):
    """Does rows until the end, or so many: the end, None without one."""
    try:
        for _ in range(most):
            if engine.halted is not None:
                break
            frame = engine.entered[-1]
            frame.at += 1
            frame.proc.deeds[frame.at - 1](engine, frame, frame.proc.rows[frame.at - 1])
    except Trap as trap:
        return "trap", trap.value, engine.entered[-1].line
    return engine.halted


class AllProgramsTest(unittest.TestCase):
    def test_plain_units_are_let_and_mean_the_same(self):
        many = 0
        for seed, program in programs(range(120)):
            want_let(program)
            told, end = run(program, INPUTS, 1500)
            try:
                unit = compiled(program)
            except TooLong:
                continue
            if end == ("on",):
                continue
            many += 1
            engine = engine_of(unit, inputs_wanted(program, INPUTS))
            self.assertEqual(steps_done(engine, 10 ** 6), end, seed)
            for name, contents in told:
                if isinstance(contents, str):
                    self.assertEqual(engine.boxes[name].file.all_things, contents, seed)
        self.assertGreater(many, 30)

    def test_stops_and_what_is_seen(self):
        for seed, program in programs(range(30)):
            try:
                unit = compiled(program)
            except TooLong:
                continue
            places = {}
            for line, column, proc, row in stops(program):
                self.assertEqual(unit.code(proc)[row], "line {}".format(line), seed)
                places[line, column] = True
            self.assertEqual(len(numbers(program)), len(unit.procs))
            for number in (1, 5, 20, 60):
                told = seen(program, INPUTS, number)
                if told[0] == "stop":
                    self.assertIn(told[1:3], places, seed)

    def test_units_that_are_let_are_never_stuck(self):
        rolls = random.Random(7)
        many = 0
        for _, program in programs(range(40)):
            try:
                rows = compiled(program).text.split("\n")
            except TooLong:
                continue
            heads = ("layout", "signature", "proc", "takes", "gives", "names", "files", "work", "end", "label")
            codes = [at for at, row in enumerate(rows) if row.split(" ")[0] not in heads]
            rows = ["work 99" if row.startswith("work ") else row for row in rows]
            for _ in range(25):
                other = list(rows)
                for _ in range(rolls.randint(1, 2)):
                    other[rolls.choice(codes)] = rolls.choice((rolls.choice(OTHERS), rows[rolls.choice(codes)]))
                try:
                    unit = Unit("\n".join(other))
                except BadUnit:
                    continue
                told = checked(unit)
                self.assertIs(shows_checked(unit, told), True)
                if told[0] == "let":
                    many += 1
                    steps_done(engine_of(unit, {"input": "5 a"}), 1500)
        self.assertGreater(many, 20)


if __name__ == "__main__":
    unittest.main()
