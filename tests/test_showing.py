"""Point 21: names_in, shown_in, edited, anew."""

import unittest

from begunended.compiling import compiled
from begunended.edits import anew, edited
from begunended.errors import BadKind, BadLines, BadNumber, BadSyntax, BadText, NoPlace, NoStop, TooLong
from begunended.machine import Machine
from begunended.program import Program
from begunended.running import seen
from begunended.showing import names_in, shown_in
from begunended.stops import stops
from tests.common import Refusing

NESTED = Program("""program p(input, output, f);
const five = 5;
type color = (red, green); shape = record x: integer; case t: color of red: (a: char); green: (b: set of 1..5) end;
var f: file of integer; x, y: integer; s: shape; t: text; q: ^shape;
procedure one(n: integer; var v: shape; procedure h; function g: integer);
var y: char; z: array [1..2] of color;
  function two(x: boolean): integer;
  var five: char;
    procedure three; begin two := 3; five := 'a' end;
  begin three; two := 4 end;
begin with s do x := two(true); y := 'b' end;
function one2: integer; begin one2 := 1 end;
procedure none; begin end;
begin s.x := 2; one(7, s, none, one2) end.""")


def rows_of_line(program, line):
    """The rows at which statements of a line begin."""
    return [row for told, _, _, row in stops(program) if told == line]


class NamesInTest(Refusing, unittest.TestCase):
    def test_names(self):
        program = [("f", 2), ("input", 0), ("output", 1), ("q", 7), ("s", 5), ("t", 6), ("x", 3), ("y", 4)]
        self.assertEqual(names_in(NESTED, 0), tuple((name, 0, number) for name, number in program))
        outer = {name: (1, number) for name, number in program}
        one = {**outer, "n": (0, 0), "v": (0, 1), "y": (0, 4), "z": (0, 5)}
        self.assertEqual(names_in(NESTED, 1), tuple(sorted((name, *where) for name, where in one.items())))
        # The function two within its block, and in a block within; x is its parameter there.
        two = {name: (links + 1, number) for name, (links, number) in one.items()}
        two.update({"x": (0, 0), "two": (0, 1), "five": (0, 2)})
        self.assertEqual(names_in(NESTED, 2), tuple(sorted((name, *where) for name, where in two.items())))
        three = {name: (links + 1, number) for name, (links, number) in two.items()}
        self.assertEqual(names_in(NESTED, 3), tuple(sorted((name, *where) for name, where in three.items())))
        self.assertEqual(names_in(NESTED, 4), tuple(sorted([(name, 1, number) for name, number in program] + [("one2", 0, 0)])))
        self.assertEqual(names_in(program=NESTED, number=5), tuple((name, 1, number) for name, number in program))

    def test_names_told_anew(self):
        program = Program("program p(output); var a, b: integer; procedure q; const a = 1; type b = char; begin end;\n"
                          "procedure r(procedure a); var output: integer; function b: integer; begin b := 1 end; begin end; begin end.")
        self.assertEqual(names_in(program, 1), (("output", 1, 0),))
        self.assertEqual(names_in(program, 2), (("output", 0, 1),))
        self.assertEqual(names_in(program, 3), (("b", 0, 0), ("output", 1, 1)))

    def test_wrong_numbers(self):
        for value in (6, -1, True, False, "0", None, 1.0, (0,), 99):
            self.refused(BadNumber, value, names_in, NESTED, value)


class ShownInTest(Refusing, unittest.TestCase):
    def test_values(self):
        unit = compiled(NESTED)
        machine = Machine(unit, (("f", (4,)), ("input", "")))
        machine.run_to("p3", 0, 1000)
        self.assertEqual(shown_in(NESTED, machine, "five"), None)
        told = {"n": 7, "v": (2, None, None, ()), "y": None, "z": (None, None), "x": True, "two": None, "s": (2, None, None, ()),
            "q": None, "f": "file",
                "t": "file", "input": "file"}
        for name, value in told.items():
            self.assertEqual(shown_in(NESTED, machine, name), value, name)
        machine.run_to("p2", 3, 100)
        self.assertEqual([shown_in(NESTED, machine, "two"), shown_in(NESTED, machine, "five")], [3, "a"])
        machine.run_to("p1", 10, 1000)
        self.assertEqual([shown_in(program=NESTED, machine=machine, name="y"), shown_in(NESTED, machine, "x"),
            shown_in(NESTED, machine, "s")],
                         [None, None, (4, None, None, ())])

    def test_told_names_sets_pointers(self):
        program = Program("program p; type c = (red, green); var a: c; b: array [c] of boolean; s: set of c; q, r: ^c; "
                          "begin a := green; b[red] := true; s := [green]; q := nil; new(r);\na := red end.")
        machine = Machine(compiled(program), ())
        machine.run_to("p0", rows_of_line(program, 2)[-1], 99)
        told = [shown_in(program, machine, name) for name in "absqr"]
        self.assertEqual(told, ["green", (True, None), (1,), "nil", "piece"])

    def test_gone_arm_window(self):
        program = Program("""program p(f);
type r = record case b: boolean of true: (x: integer); false: (c: char) end; l = ^r;
var f: file of integer; v: r; q: l;
procedure one(var n: integer); begin dispose(q);
n := 1 end;
procedure two(var n: integer); begin v.b := false;
n := 1 end;
procedure three(var n: integer); begin n := 1;
n := 2 end;
begin new(q); q^.b := true; q^.x := 5; v.b := true; v.x := 4; rewrite(f); {call} end.""")
        for call, routine, told in (("one(q^.x)", 1, [5, "gone"]), ("two(v.x)", 2, [4, "arm"]), ("three(f^)", 3, ["window", "window"])):
            other = Program(program.text.replace("{call}", call))
            machine = Machine(compiled(other), ())
            machine.run_to("p" + str(routine), 0, 1000)
            found = [shown_in(other, machine, "n")]
            self.assertTrue(machine.run_to("p" + str(routine), rows_of_line(other, 3 + 2 * routine)[0], 99))
            found.append(shown_in(other, machine, "n"))
            self.assertEqual(found, told, call)

    def test_errors(self):
        unit = compiled(NESTED)
        machine = Machine(unit, (("input", ""),))
        long = Program("program p; var a: integer; begin " + "a := 1; " * 60 + "end.")
        self.refused(TooLong, 0, shown_in, long, machine, 3)
        self.refused(NoStop, None, shown_in, Program("program p; begin end."), machine, 3)
        self.refused(NoStop, None, shown_in, Program(NESTED.text.replace("five = 5", "five = 6").replace("s.x := 2", "s.x := 3")), machine,
            "x")
        for value in ("n", "five", "one", "none", "red", "color", "p", "X", "", None, 3, True, ("x",), "true", "h"):
            self.refused(NoPlace, value, shown_in, NESTED, machine, value)
        machine.run_to("p1", 0, 99)
        for value in ("h", "g", "two", "one"):
            self.refused(NoPlace, value, shown_in, NESTED, machine, value)
        short = Program("program p; var a: integer; begin end.")
        done = Machine(compiled(short), ())
        self.assertIsNone(shown_in(short, done, "a"))
        done.run(9)
        self.refused(NoStop, None, shown_in, short, done, "a")
        # Behind a trap the frame is still there.
        trapping = Program("program p; var a: integer; begin a := 3; a := a div 0 end.")
        machine = Machine(compiled(trapping), ())
        machine.run(99)
        self.assertEqual([machine.ended[0], shown_in(trapping, machine, "a")], ["trap", 3])

    def test_as_seen_tells(self):
        text = ("program p(output); var i, s: integer; procedure q(n: integer); begin s := s + n end;\n"
                "begin s := 0; for i := 1 to 3 do q(i * 2); writeln(s) end.")
        program = Program(text)
        machine = Machine(compiled(program), ())
        machine.run_to("p1", 0, 99)
        told = seen(program, (), 5)
        self.assertEqual(told[3:], (("p", "q"), (("n", 2),)))
        self.assertEqual([shown_in(program, machine, name) for name in ("n", "s", "i")], [2, 0, 1])


class EditedTest(Refusing, unittest.TestCase):
    TEXT = "program p(output);\nvar a: integer;\nbegin\na := 1;\nwriteln(a)\nend."

    def test_lines(self):
        program = Program(self.TEXT)
        for first, last, lines, told in (
                (4, 4, ("a := 2;",), self.TEXT.replace("1;", "2;")), (4, 4, (), self.TEXT.replace("a := 1;\n", "")),
                (4, 3, ("", "a := 3;"), self.TEXT.replace("a := 1", "\na := 3;\na := 1")),
                (1, 0, ("{x}",), "{x}\n" + self.TEXT), (7, 6, ("", ""), self.TEXT + "\n\n"),
                (1, 6, ("program q;", "begin end."), "program q;\nbegin end."),
                (5, 5, (" ; ", "writeln"), self.TEXT.replace("writeln(a)", " ; \nwriteln")), (6, 6, ("end.", ""), self.TEXT + "\n")):
            other = edited(program, first, last, lines)
            self.assertEqual(other.text, told)
            self.assertEqual(other, Program(told))
        self.assertEqual(program.text, self.TEXT)
        self.assertEqual(edited(program=program, first=1, last=0, lines=()), program)

    def test_wrong_lines(self):
        program = Program(self.TEXT)
        for first, last in ((0, 0), (0, 3), (3, 1), (8, 7), (7, 7), (1, 7), (-1, 2), (True, 3), (1, True), ("1", 2), (1, None), (1.0, 2),
                (None, None), (2, -1)):
            self.refused(BadLines, (first, last), edited, program, first, last, 3)
        for lines in (None, "a", ["a := 1;"], ("a\n",), (1,), ("a", None), {}, (("a",),)):
            self.refused(BadText, lines, edited, program, 1, 1, lines)

    def test_what_is_no_program(self):
        program = Program(self.TEXT)
        self.refused(BadSyntax, self.syntax("end end"), edited, program, 4, 4, ("end end",))
        self.refused(BadKind, (4, 6, "alike"), edited, program, 4, 4, ("a := true;",))

    def syntax(self, line):
        with self.assertRaises(BadSyntax) as caught:
            Program(self.TEXT.replace("a := 1;", line))
        return caught.exception.value


class AnewTest(Refusing, unittest.TestCase):
    TEXT = ("program p(output);\ntype r = record x: integer end; l = ^r;\nvar a: integer; b: l;\nprocedure one(n: integer);\nbegin\n  a := n end;\n"
            "procedure two;\n  procedure three; begin a := 3 end;\nbegin three; one(2)\nend;\nfunction four: integer; begin four := 4 end;\nbegin one(1); two end.")

    def told(self, *changes):
        text = self.TEXT
        for one, other in changes:
            self.assertIn(one, text)
            text = text.replace(one, other)
        return anew(Program(self.TEXT), Program(text))

    def test_what_stays(self):
        self.assertEqual(self.told(), ())
        # Lines are counted from the routine's name: a line more ahead of it changes nothing in it.
        self.assertEqual(self.told(("procedure one", "\n\nprocedure one")), (0,))
        self.assertEqual(self.told(("procedure two", "{x}\nprocedure two")), (0,))
        self.assertEqual(self.told(("program p", "\nprogram p")), ())
        self.assertEqual(self.told(("begin\n  a := n end", "begin  a := n end")), (0, 1))
        self.assertEqual(self.told(("  procedure three", "\n  procedure three")), (0, 2))
        self.assertEqual(self.told(("n: integer", "m: integer"), ("a := n", "a := m")), ())

    def test_rows_of_procs(self):
        self.assertEqual(self.told(("a := n end", "a := -n end")), (1,))
        self.assertEqual(self.told(("begin a := 3 end", "begin a := 4 end")), (3,))
        self.assertEqual(self.told(("procedure three; begin", "procedure three; var z: integer; begin")), (3,))
        self.assertEqual(self.told(("a: integer; b: l", "a: integer; b, c: l")), (0,))
        self.assertEqual(self.told(("var a: integer; b", "var c, a: integer; b")), (0, 1, 3))
        self.assertEqual(self.told(("one(n: integer)", "one(n: char)"), ("a := n", "a := ord(n)"), ("one(2)", "one('2')"),
            ("one(1)", "one('1')")), (0, 1, 2))

    def test_names_and_numbers(self):
        # A routine told ahead gives other numbers to those behind it: no matter.
        self.assertEqual(self.told(("procedure one(", "procedure zero; begin end;\nprocedure one(")), (0, 1))
        self.assertEqual(self.told(("procedure one", "procedure uno"), ("one(2)", "uno(2)"), ("one(1)", "uno(1)")), (0, 1, 2))
        self.assertEqual(self.told(("program p(", "program q(")), (0, 1, 2, 3, 4))
        self.assertEqual(self.told(("procedure two;", "procedure dos;"), ("two end", "dos end")), (0, 2, 3))
        moved = self.TEXT.replace("  procedure three; begin a := 3 end;\n", "").replace("procedure two;",
            "procedure three; begin a := 3 end;\nprocedure two;\n")
        # Three stands by itself now: no routine has this name within the program alone; two calls another one.
        self.assertEqual(anew(Program(self.TEXT), Program(moved)), (0, 2, 3))

    def test_layouts_and_signatures(self):
        everything = (0, 1, 2, 3, 4)
        self.assertEqual(self.told(("x: integer end", "x: char end")), everything)
        self.assertEqual(self.told(("b: l;", "b: l; c: ^char;")), everything)
        self.assertEqual(self.told(("procedure three; begin", "procedure three(procedure h); begin"),
            ("begin three;", "begin three(two);")), everything)

    def test_first_headings(self):
        text = "program p;\nprocedure one; forward;\n{}procedure two; begin one end;\nprocedure one;\nbegin two end;\nbegin one end."
        self.assertEqual(anew(Program(text.format("")), Program(text.format("\n"))), (0, 1))
        self.assertEqual(anew(Program(text.format("")), Program("\n" + text.format(""))), ())

    def test_too_long(self):
        short = Program("program p; begin end.")
        long = Program("program p; var a: integer; begin " + "a := 1; " * 60 + "end.")
        other = Program("program p; procedure q; var a: integer; begin " + "a := 1; " * 60 + "end; begin end.")
        self.refused(TooLong, 0, anew, long, other)
        self.refused(TooLong, 1, anew, short, other)
        self.refused(TooLong, 1, anew, other, long)
        self.assertEqual(anew(program=short, other=short), ())


if __name__ == "__main__":
    unittest.main()
