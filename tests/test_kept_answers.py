"""What is found once and kept: answers are those of Programs and Units that were asked nothing else, in whatever sequence."""

import itertools
import random
import unittest

from begunended.checking import checked, never_come
from begunended.claims import ends_of, private
from begunended.compiling import compiled
from begunended.depths import calls, frames_needed, least_work, work_needed
from begunended.desk import Desk
from begunended.edits import anew, edited
from begunended.errors import StageError
from begunended.journals import journal
from begunended.judging import judged
from begunended.machine import run_unit
from begunended.passes import bettered, kept, made_seam
from begunended.program import Program
from begunended.running import run, seen
from begunended.showing import names_in
from begunended.stops import numbers, stops
from begunended.surely import all_claims, closed, set_ways, sure_rows
from begunended.units import Unit
from tests.random_programs import random_program
from tests.random_units import random_unit

PASSES = ("looks", "tests", "folded", "unread", "sums", "pairs", "again", "lines", "jumps", "dead")
CALLS = """program c(output);
label 9;
var n: integer; b: boolean;
procedure one(d: integer);
var r: record x, y: integer end;
begin
  with r do x := d;
  if d > 1 then one(d - 1);
  if r.x > 99 then goto 9;
  while n < 30 do n := n + d
end;
function twice(procedure q(k: integer); n: integer): integer;
begin q(n); twice := n * 2 end;
begin
  n := 0;
  one(3);
  case n of 1: n := twice(one, 2); 2, 70: b := n in [1, 4..7] end;
9: writeln(n: 4, b)
end."""
READS = "program r(input, output, f); var f: file of integer; i: integer;\nbegin rewrite(f); while not eof do begin read(i); write(f, i) end end."
FORWARD = "program f; procedure p(a: integer); forward; procedure q; begin p(1) end; procedure p; begin if a > 0 then q end; begin q end."
JUMPS = "program j; label 1; begin repeat goto 1; 1: begin end until true end."


def filled(many, statement):
    """A program whose inner routine has so many statements."""
    return "program p; var a: integer; procedure q; begin " + (statement + "; ") * many + "end; begin q end."


def named(many):
    """A program whose inner routine has so many names."""
    names = ", ".join([f"v{number}" for number in range(many)])
    return f"program p; procedure q; var {names}: integer; begin v0 := 1 end; begin q end."


def deep(many):
    """A program whose inner routine has so many things on its workspace."""
    heads, tails = "", "1"
    for _ in range(min(many, 36)):
        heads, tails = heads + "a + (", tails + ")"
    return f"program p; var a: integer; procedure q; begin a := {heads}{tails} end; begin q end."


def labelled(many):
    """A program whose inner routine has so many labels of its code."""
    return "program p; procedure q; begin " + "if true then; " * many + "end; begin q end."


TEXTS = (
    CALLS, READS, FORWARD, JUMPS, deep(30), "program p; begin end.", "program p; begin while true do end.", "program p(output); begin rewrite(output) end.",
    filled(48, "a := 1"), filled(49, "a := 1"), filled(50, "a := 1"), named(39), named(40), named(41), labelled(39), labelled(40))


def told(value):
    """A result as it can be compared, whoever made it."""
    if isinstance(value, Program | Unit):
        return type(value).__name__, value.text
    if isinstance(value, Desk):
        return "Desk", journal(value), value.where(), value.callers(), value.written(), value.ending()
    return tuple([told(part) for part in value]) if isinstance(value, tuple) else value


def answer(ask, *given):
    """What is told, or the error that is raised."""
    try:
        return told(ask(*given))
    except StageError as error:
        return type(error).__name__, told(error.value)


def stepped(program):
    """A desk that went some stops on, and one back."""
    desk = Desk(program, ())
    desk.step()
    desk.step()
    desk.back()
    return desk


PROGRAM_ASKS = {
    "compiled": compiled, "stops": stops, "numbers": numbers, "anew": lambda program: anew(program, program), "desk": stepped,
    "run": lambda program: run(program, (), 200), "seen": lambda program: seen(program, (), 4), "names": lambda program: names_in(program, 0),
    "edited": lambda program: anew(edited(program, 1, 0, ("",)), program), "read": lambda program: run(program, (("input", "3 4\n"),), 50),
    "executed": lambda program: run_unit(compiled(program), (), 300)}


class ProgramsTest(unittest.TestCase):
    def alone(self, text):
        """The answers of Programs each of which is asked for one thing alone."""
        return {word: answer(ask, Program(text)) for word, ask in PROGRAM_ASKS.items()}

    def test_each_ahead_of_each(self):
        for text in TEXTS:
            alone = self.alone(text)
            for one, other in itertools.permutations(("compiled", "stops", "numbers", "anew", "desk", "run"), 2):
                program = Program(text)
                for word in (one, other, one):
                    self.assertEqual(answer(PROGRAM_ASKS[word], program), alone[word], (text, one, other))

    def test_in_whatever_sequence(self):
        rolls = random.Random(16)
        texts = list(TEXTS)
        for seed in range(400, 440):
            try:
                texts.append(Program(random_program(seed)).text)
            except StageError:
                pass
        self.assertGreater(len(texts), len(TEXTS) + 15)
        for text in texts:
            alone = self.alone(text)
            for _ in range(2):
                program = Program(text)
                words = list(PROGRAM_ASKS) * 2
                rolls.shuffle(words)
                for word in words:
                    self.assertEqual(answer(PROGRAM_ASKS[word], program), alone[word], (text, word))

    def test_both_kinds_of_texts_are_among_them(self):
        found = [answer(compiled, Program(text))[0] for text in TEXTS]
        self.assertEqual((found.count("Unit"), found.count("TooLong")), (13, 3))

    def test_too_long_by_one(self):
        for fits, exceeds in ((filled(49, "a := 1"), filled(50, "a := 1")), (named(40), named(41)), (labelled(39), labelled(40))):
            self.assertEqual([answer(ask, Program(fits))[0] == "TooLong" for ask in (compiled, stops, stepped)], [False] * 3)
            program = Program(exceeds)
            for ask in (stops, compiled, stepped, compiled, stops, PROGRAM_ASKS["anew"]):
                self.assertEqual(answer(ask, program), ("TooLong", 1))
            self.assertEqual(answer(numbers, program), answer(numbers, Program(exceeds)))
            self.assertEqual(answer(run, program, (), 90), answer(run, Program(exceeds), (), 90))

    def test_two_programs_of_one_text(self):
        one, other = Program(CALLS), Program(CALLS)
        stops(one)
        compiled(other)
        self.assertEqual((compiled(one), stops(one), numbers(one)), (compiled(other), stops(other), numbers(other)))
        self.assertEqual((anew(one, other), anew(other, one), one == other), ((), (), True))
        self.assertEqual(Desk(one, ()), Desk(other, ()))
        desk, twin = Desk(one, ()), Desk(one, ())
        for _ in range(9):
            desk.step()
        # Desks of one Program, and runs of it, leave one another alone.
        self.assertEqual((twin.stop, twin.where(), twin.value("n")), (1, (14, 1), None))
        self.assertEqual(answer(run, one, (), 100), answer(run, Program(CALLS), (), 100))
        self.assertEqual((desk.stop, desk.callers()), (10, answer(lambda: self.desk_behind(9).callers())))

    def desk_behind(self, many):
        desk = Desk(Program(CALLS), ())
        for _ in range(many):
            desk.step()
        return desk


def best(passes):
    return lambda unit: (bettered(unit, passes), kept(unit, passes), made_seam(unit, passes).text)


UNIT_ASKS = {
    "checked": checked, "never": never_come, "claims": all_claims, "ends": ends_of, "calls": calls, "frames": frames_needed,
    "least": least_work, "private": lambda unit: tuple([private(unit, name) for name in unit.procs]),
    "sure": lambda unit: tuple([sure_rows(unit, name) for name in unit.procs]),
    "work": lambda unit: tuple([work_needed(unit, name) for name in unit.procs]),
    "closed": lambda unit: closed(unit, all_claims(unit)), "ways": lambda unit: set_ways(unit, unit.procs[0], 3, private(unit, unit.procs[0])[0]),
    "run": lambda unit: run_unit(unit, (("input", "1 2 3\n"),), 300), "looks": best(("looks",)), "folded": best(("folded", "tests")),
    "sums": best(("sums", "pairs", "again")), "jumps": best(("jumps", "lines", "dead")), "all": best(PASSES), "turned": best(PASSES[::-1]),
    "twice": lambda unit: bettered(bettered(unit, ("folded", "sums")), ("unread", "jumps", "dead")),
    "judged": lambda unit: judged(unit, bettered(unit, ("sums",)), made_seam(unit, ("sums",)))}


def unit_texts():
    """Texts of units that are let, and two of such as are not."""
    texts = [random_unit(seed).text for seed in range(60, 72) if random_unit(seed) is not None]
    head = "proc p0 -\ntakes\ngives -\nnames <text> n t\nfiles output\nwork 3\n"
    texts.append(head + "label 1\nplace 0 1\nnum 3\nstore\nplace 0 1\nload\nlook 1 9\nnum 4\nlt\nunless 2\nline 3\nline 4\njump 1\nlabel 2\nleave\nend")
    texts.append(head + "line 2\ntruth 1\nunless 4\njump 3\nlabel 4\njump 3\nlabel 3\nplace 0 2\ntruth 0\nnot\nstore\nleave\nend")
    texts += [texts[-1].replace("store", "drop"), texts[-2].replace("line 4", "num 4")]
    return texts


class UnitsTest(unittest.TestCase):
    def alone(self, text):
        return {word: answer(ask, Unit(text)) for word, ask in UNIT_ASKS.items()}

    def test_in_whatever_sequence(self):
        rolls = random.Random(17)
        for text in unit_texts():
            alone = self.alone(text)
            for _ in range(2):
                unit = Unit(text)
                words = list(UNIT_ASKS) * 2
                rolls.shuffle(words)
                for word in words:
                    self.assertEqual(answer(UNIT_ASKS[word], unit), alone[word], (text, word))

    def test_let_and_not_let(self):
        found = [checked(Unit(text))[0] for text in unit_texts()]
        self.assertGreater(found.count("let"), 8)
        self.assertEqual(len(found) - found.count("let"), 2)

    def test_passes_in_two_sequences(self):
        rolls = random.Random(18)
        for text in unit_texts():
            unit = Unit(text)
            for _ in range(4):
                one = tuple(rolls.choice(PASSES) for _ in range(rolls.randint(1, 4)))
                other = tuple(rolls.choice(PASSES) for _ in range(rolls.randint(1, 4)))
                for passes in (one, other, one, other[::-1], one + other):
                    self.assertEqual(answer(best(passes), unit), answer(best(passes), Unit(text)), (text, passes))

    def test_one_pass_behind_another(self):
        # What stands between passes has no text; each pass by itself makes a unit that is read.
        rolls = random.Random(19)
        for text in unit_texts()[:-2]:
            for _ in range(8):
                passes = tuple(rolls.choice(PASSES) for _ in range(rolls.randint(2, 6)))
                unit = Unit(text)
                for word in passes:
                    unit = Unit(bettered(unit, (word,)).text)
                self.assertEqual(bettered(Unit(text), passes), unit, (text, passes))
                made = bettered(Unit(text), passes)
                self.assertEqual(answer(all_claims, made), answer(all_claims, unit))
                self.assertEqual(answer(checked, made), answer(checked, unit))

    def test_nothing_turned(self):
        for passes in ((), ("looks", "sums"), ("dead", "lines")):
            unit = Unit("proc p0 -\ntakes\ngives -\nnames n\nfiles\nwork 2\nplace 0 0\nnum 1\nstore\nleave\nend")
            self.assertEqual((bettered(unit, passes), bettered(unit, passes).code("p0")), (unit, unit.code("p0")))
            self.assertEqual(kept(unit, passes), (("p0", 0, 0), ("p0", 1, 1), ("p0", 2, 2), ("p0", 3, 3)))


if __name__ == "__main__":
    unittest.main()
