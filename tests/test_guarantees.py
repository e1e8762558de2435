"""Point 3: what holds of all programs and units: accepted, never stuck, kept, claims, seams, live; also sections 8 and 15."""

import random
import unittest

from begunended.checking import checked, shows_checked
from begunended.compiling import compiled
from begunended.depths import frames_needed, work_needed
from begunended.desk import Desk
from begunended.errors import BadUnit, Ended, Long, NothingAhead, NothingToRedo, NothingToUndo, StageError, TooLong, Wide
from begunended.journals import journal, read_journal
from begunended.joining import joined
from begunended.judging import judged
from begunended.machine import Machine, run_unit
from begunended.passes import bettered, made_seam
from begunended.program import Program
from begunended.running import run, seen
from begunended.seams import Seam
from begunended.showing import shown_in
from begunended.stops import numbers, stops
from begunended.surely import all_claims, closed
from begunended.units import Unit
from begunended.words import unit_of, words
from tests.common import want_let
from tests.random_programs import random_program
from tests.random_units import INPUTS as NUMBERS
from tests.random_units import aligned, changed_unit, random_unit

INPUTS = (("input", "12 abc 4 7\nx y 9\n3"),)
PASSES = ("looks", "tests", "folded", "unread", "sums", "pairs", "again", "lines", "jumps", "dead")
COMPARED = {
    "eq": lambda one, other: one == other, "ne": lambda one, other: one != other, "lt": lambda one, other: one < other,
    "le": lambda one, other: one <= other, "gt": lambda one, other: one > other, "ge": lambda one, other: one >= other}
OTHERS = (
    "drop", "dup", "load", "store", "move", "unset", "aim", "window", "new", "gone", "reset", "put", "eof", "readn", "writec", "writes",
    "add", "mod", "neg", "odd", "ordc", "chr", "tru", "and", "not", "eq", "lt", "same", "seq", "one", "span", "in", "leave", "jump 0",
    "unless 1", "num 3", "truth 1", "sign 65", "set 1 2", "string 65 66", "field 0", "field 2", "arm 0", "become 1", "lives 1 0 0 1 1",
    "index 3 5", "look 0 9", "text eq", "table 0 0 1", "place 0 1", "place 0 2", "place 1 1", "bind 8", "call p1", "far 1 0")


def programs(seeds):
    for seed in seeds:
        try:
            yield seed, Program(random_program(seed))
        except StageError:
            pass


def compiled_programs(seeds):
    for seed, program in programs(seeds):
        try:
            yield seed, program, compiled(program)
        except TooLong:
            pass


def random_units(seeds):
    for seed in seeds:
        unit = random_unit(seed)
        if unit is not None:
            yield seed, unit


def ordinal(value):
    return ord(value) if isinstance(value, str) else int(value)


def told_as_numbers(value):
    """A shown value without what told names are called, which a machine tells as numbers."""
    if isinstance(value, tuple):
        return tuple([told_as_numbers(part) for part in value])
    return {"red": 0, "green": 1, "blue": 2}.get(value, value) if isinstance(value, str) else value


class KeptTest(unittest.TestCase):
    def test_plain_units_have_the_same_doing(self):
        many = 0
        for seed, program in programs(range(120)):
            want_let(program)
            told, end = run(program, INPUTS, 1500)
            try:
                unit = compiled(program)
            except TooLong:
                continue
            if end == ("on",):
                continue
            many += 1
            same = tuple([(name, told_as_numbers(contents)) for name, contents in told])
            self.assertEqual(run_unit(unit, INPUTS, 100000), (same, end), seed)
            self.assertEqual(run_unit(unit_of(words(unit)), INPUTS, 100000), (same, end), seed)
        self.assertGreater(many, 30)

    def test_traps_and_their_lines(self):
        for text, inputs in (
                ("program p(output);\nbegin\nwriteln(1\ndiv 0) end.", ()), ("program p(input); var a: 1..3;\nbegin\nread(a)\nend.",
                (("input", "4"),)),
                ("program p(output); function f: integer;\nbegin\nend;\nbegin\nwrite(f) end.", ()),
                ("program p; var i: integer; begin while\ntrue do begin\ni := i end end.", ()),
                ("program p(input); begin end.", ()), ("program p; type l = ^r; r = record a: l end; var q: l; begin\nnew(q); dispose(q);\nq^.a := q end.", ())):
            program = Program(text)
            self.assertEqual(run_unit(compiled(program), inputs, 1000), run(program, inputs, 1000))
            self.assertEqual(run(program, inputs, 1000)[1][0], "trap")

    def pieces(self, unit):
        """A unit in pieces: the program, and each proc told in it with those within, as units of their own."""
        rows = unit.text.split("\n")
        begin = [at for at, row in enumerate(rows) if row.startswith("proc ")]
        heads = rows[:begin[0]]
        parts = {rows[at].split(" ")[1]: rows[at:end] for at, end in zip(begin, begin[1:] + [len(rows)])}
        tops = [name for name in unit.procs[1:] if unit.outer(name) == "p0"]
        groups = [["p0"]] + [[name for name in unit.procs if top == name or top in self.around(unit, name)] for top in tops]
        units = []
        for group in groups:
            told = [row for name in group for row in parts[name]]
            called = {row.split(" ")[1] for row in told if row.split(" ")[0] in ("call", "hand")} - set(group)
            main = "p0" if group == ["p0"] else "main"
            needs = []
            for name in sorted(called):
                proc = unit.proc_table[name]
                needs.append(" ".join(["needs", name, main, "takes", *proc.takes, "gives", proc.gives]))
            if main == "main":
                told = ["proc main -", "takes", "gives -", "names", "files", "work 0", "leave", "end"] + told
                told = [row.replace(" p0", " main") if row.startswith("proc ") else row for row in told]
            units.append(Unit("\n".join(heads + needs + told)))
        return units

    def around(self, unit, name):
        found = []
        while unit.outer(name) is not None:
            name = unit.outer(name)
            found.append(name)
        return found

    def test_units_joined_in_any_sequence(self):
        many = 0
        rolls = random.Random(3)
        for _, _, unit in compiled_programs(range(60)):
            pieces = self.pieces(unit)
            if not 2 <= len(pieces) <= 6:
                continue
            told = run_unit(unit, INPUTS, 3000)
            for _ in range(2):
                others = pieces[1:]
                rolls.shuffle(others)
                other = joined((pieces[0], *others))
                self.assertEqual(checked(other)[0], "let")
                self.assertEqual(run_unit(other, INPUTS, 3000), told)
                many += 1
        self.assertGreater(many, 10)


class NeverStuckTest(unittest.TestCase):
    def go(self, unit, inputs, most):
        """Goes through a run: it never has more frames, or things, than are told; what lies there is of the sorts told."""
        depth = frames_needed(unit)
        machine = Machine(unit, inputs)
        most_work = {name: work_needed(unit, name)[0] for name in unit.procs}
        shapes = {(name, row): shape for name, row, shape in checked(unit)[1]}
        while machine.ended is None and machine.steps < most:
            frames = machine.frames
            self.assertLessEqual(len(frames), depth[1] if depth[0] == "most" else 200)
            workspace = machine.workspace()
            self.assertLessEqual(len(workspace), most_work[frames[0][1]])
            self.assertEqual(tuple([sort for sort, _ in workspace]), shapes[machine.at])
            for number, name, link, caller, _ in frames[:4]:
                self.assertLess(max(link, caller), number)
                self.assertEqual(unit.outer(name), next((told for other, told, *_ in frames if other == link), None))
                self.assertEqual(len(machine.linked(number)), unit.level(name) + 1)
            machine.step()
        return machine

    def test_programs(self):
        for _, _, unit in compiled_programs(range(30)):
            self.go(unit, INPUTS, 400)

    def test_units_that_are_let(self):
        many = 0
        for seed, unit in random_units(range(25)):
            self.go(unit, NUMBERS[seed - 8 * (seed // 8)], 300)
            many += 1
        self.assertGreater(many, 20)

    def test_rows_put_elsewhere(self):
        rolls = random.Random(7)
        many = 0
        for _, _, unit in compiled_programs(range(40)):
            rows = ["work 99" if row.startswith("work ") else row for row in unit.text.split("\n")]
            heads = ("layout", "signature", "proc", "takes", "gives", "names", "files", "work", "end", "label")
            codes = [at for at, row in enumerate(rows) if row.split(" ")[0] not in heads]
            for _ in range(25):
                other = list(rows)
                for _ in range(rolls.randint(1, 2)):
                    other[rolls.choice(codes)] = rolls.choice((rolls.choice(OTHERS), rows[rolls.choice(codes)]))
                try:
                    changed = Unit("\n".join(other))
                except BadUnit:
                    continue
                told = checked(changed)
                self.assertIs(shows_checked(changed, told), True)
                if told[0] == "let":
                    many += 1
                    self.go(changed, (("input", "5 a"),), 60)
                    run_unit(changed, (("input", "5 a"),), 1500)
        self.assertGreater(many, 20)


class ClaimsTest(unittest.TestCase):
    def go(self, unit, inputs, most):
        """Goes through a run: what is claimed at each row that it comes to, or goes by, holds there."""
        told = {row[:2]: row[2:] for row in all_claims(unit)}
        machine = Machine(unit, inputs)
        while machine.ended is None and machine.steps < most:
            proc, row = machine.at
            number = machine.frames[0][0]
            orders = unit.code(proc)
            self.holds(told[proc, row], machine, number)
            while orders[row].split(" ")[0] in ("line", "label"):
                row += 1
                self.holds(told[proc, row], machine, number)
            machine.step()

    def holds(self, claimed, machine, frame):
        names, cells = claimed
        held = {}
        for name, is_set, low, high in names:
            value = machine.contents(frame, name)
            if value is None:
                self.assertFalse(is_set)
            else:
                held[name] = ordinal(value)
                self.assertTrue(low <= held[name] <= high)
        for (_, value), cell in zip(machine.workspace(), cells):
            if cell is not None:
                low, high, stem, tests = cell
                self.assertTrue(low <= ordinal(value) <= high)
                if stem is not None:
                    self.assertEqual(ordinal(value), held[stem[0]] + stem[1])
                for name, more, word, least, most in tests:
                    one = held[name] + more
                    others = [other for other in (least, most, one - 1, one, one + 1) if least <= other <= most]
                    self.assertTrue(any(COMPARED[word](one, other) == value for other in others))

    def test_programs(self):
        for _, _, unit in compiled_programs(range(30)):
            self.go(unit, INPUTS, 500)

    def test_units(self):
        for _, unit in random_units(range(20)):
            for inputs in NUMBERS[:4]:
                self.go(unit, inputs, 200)
            self.assertIs(closed(unit, all_claims(unit)), True)


class SeamsTest(unittest.TestCase):
    def same_doing(self, left, right, told):
        for inputs, found in told.items():
            if found[1] != ("on",):
                other = run_unit(right, inputs, 4000)
                if other[1] != ("on",):
                    self.assertEqual(other, found, (left.text, right.text, inputs))

    def test_passes_of_units(self):
        rolls = random.Random(5)
        for seed, unit in random_units(range(100, 118)):
            told = {inputs: run_unit(unit, inputs, 4000) for inputs in NUMBERS}
            for word in PASSES:
                other = bettered(unit, (word,))
                self.same_doing(unit, other, told)
                try:
                    self.assertEqual(judged(unit, other, made_seam(unit, (word,))), ("sewn",), (seed, word))
                except Wide:
                    pass
            passes = tuple(rolls.choice(PASSES) for _ in range(12))
            self.same_doing(unit, bettered(unit, passes), told)

    def test_what_is_sewn_has_the_same_doing(self):
        rolls = random.Random(11)
        found = {}
        for _, unit in random_units(range(200, 300)):
            told = {inputs: run_unit(unit, inputs, 4000) for inputs in NUMBERS}
            for _ in range(12):
                other = changed_unit(unit, rolls)
                if other is None or other == unit:
                    continue
                seam = Seam(aligned(unit, other, rolls, rolls.choice((0.2, 0.6, 0.95, 1))))
                try:
                    word = judged(unit, other, seam)[-1]
                except Wide:
                    continue
                found[word] = found.get(word, 0) + 1
                if word == "sewn":
                    self.same_doing(unit, other, told)
        self.assertGreater(min(found["sewn"], found["event"], found["term"]), 3)


class StopsTest(unittest.TestCase):
    def test_machines_stand_at_stops(self):
        """Ahead of each step of section 8 the machine stands at the row that stops tells, or goes by it."""
        for seed, program, unit in compiled_programs(range(24)):
            places = {(proc, row): (line, column) for line, column, proc, row in stops(program)}
            routines = {}
            for line, column, proc, row in stops(program):
                self.assertEqual(unit.code(proc)[row], "line {}".format(line), seed)
                routines[proc] = dict(numbers(program)[int(proc[1:])])
            self.assertEqual(len(numbers(program)), len(unit.procs))
            machine = Machine(unit, INPUTS)
            number = 0
            while machine.ended is None and number < 25:
                proc, row = machine.at
                while unit.code(proc)[row].split(" ")[0] in ("line", "label"):
                    if (proc, row) in places:
                        number += 1
                        self.stands(program, machine, number, places[proc, row], routines[proc])
                    row += 1
                machine.step()

    def stands(self, program, machine, number, place, own):
        told = seen(program, INPUTS, number)
        self.assertEqual((told[0], told[1:3]), ("stop", place))
        self.assertEqual(len(machine.frames), len(told[3]))
        for name, value in told[4]:
            contents = machine.contents(machine.frames[0][0], own[name])
            if value == "file":
                self.assertIn(contents[0], ("unused", "closed", "reading", "writing"))
            elif value == "routine":
                self.assertEqual(len(contents), 2)
            else:
                self.assertEqual(shown_in(program, machine, name), value)
                if value not in ("nil", "piece") and "piece" not in repr(value) and "nil" not in repr(value):
                    self.assertEqual(contents, told_as_numbers(value))


class LiveTest(unittest.TestCase):
    DEEDS = ("step", "over", "go", "back", "undo", "redo", "mark", "trial")

    def told(self, desk):
        return desk.stop, desk.where(), desk.ending(), desk.marked, desk.callers(), desk.written(), desk.done

    def test_desks(self):
        rolls = random.Random(3)
        for _, program, _ in compiled_programs(range(12)):
            desk = Desk(program, INPUTS)
            for _ in range(25):
                self.do(desk, rolls.choice(self.DEEDS), rolls)
            other = read_journal(journal(desk))
            self.assertEqual((other, self.told(other)), (desk, self.told(desk)))
            copy = desk.copy()
            while desk.done:
                desk.undo()
            self.assertEqual(self.told(desk)[:4], (1, Desk(program, INPUTS).where(), None, ()))
            self.assertEqual(self.told(copy), self.told(other))

    def do(self, desk, word, rolls):
        try:
            if word == "mark":
                desk.mark(rolls.randint(1, len(desk)))
            elif word == "trial":
                ahead = self.told(desk), journal(desk)
                with desk.trial():
                    for _ in range(3):
                        self.do(desk, rolls.choice(self.DEEDS[:6]), rolls)
                self.assertEqual((self.told(desk), journal(desk)), ahead)
            else:
                getattr(desk, word)()
        except (Ended, Long, NothingAhead, NothingToRedo, NothingToUndo):
            pass

    def test_stops_of_whole_runs(self):
        for seed, program, _ in compiled_programs(range(10)):
            desk = Desk(program, INPUTS)
            for number in range(1, 40):
                told = seen(program, INPUTS, number)
                if told[0] != "stop":
                    self.assertEqual((desk.ending(), desk.stop, desk.where(), desk.callers()), (told, number, None, ()), seed)
                    self.assertEqual(desk.written(), run(program, INPUTS, 100000)[0])
                    break
                self.assertEqual((desk.where(), desk.stop), (told[1:3], number))
                self.assertEqual(tuple([name for name, _ in desk.callers()][::-1]), told[3])
                for name, value in told[4]:
                    if value != "routine":
                        self.assertEqual(desk.value(name), value)
                desk.step()

    def test_machines_that_go_back(self):
        rolls = random.Random(2)
        for _, unit in random_units(range(300, 312)):
            machine, other = Machine(unit, NUMBERS[1]), Machine(unit, NUMBERS[1])
            for _ in range(12):
                machine.run(rolls.randint(1, 60))
                machine.back(rolls.randint(0, machine.steps))
            if machine.steps:
                other.run(machine.steps)
            self.assertEqual((machine.frames, machine.workspace(), machine.files(), machine.at, machine.at_line, machine.ended),
                             (other.frames, other.workspace(), other.files(), other.at, other.at_line, other.ended))
            machine.run(4000)
            other.run(4000)
            self.assertEqual((machine.ended, machine.files(), machine.steps), (other.ended, other.files(), other.steps))


if __name__ == "__main__":
    unittest.main()
