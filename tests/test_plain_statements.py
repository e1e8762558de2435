"""The plain code of statements, calls and bodies, and what is too long (section 15)."""

import unittest

from begunended.checking import checked
from begunended.compiling import compiled
from begunended.depths import least_work
from begunended.desk import Desk
from begunended.edits import anew
from begunended.errors import NoPlace, TooLong
from begunended.machine import Machine
from begunended.program import Program
from begunended.showing import shown_in
from begunended.stops import numbers, stops
from tests.common import Refusing
from tests.test_plain_values import body_rows, code_of, rows

INT = "var i, j: integer; b: boolean;"
I, J, B = "place 0 2", "place 0 3", "place 0 4"


class PlainStatementsTest(unittest.TestCase):
    def rows_are(self, body, told, names=INT):
        for name, place in (("<i>", I), ("<j>", J), ("<b>", B)):
            told = told.replace(name, place)
        self.assertEqual(body_rows(body, names), rows(told), body)

    def test_example_of_the_document(self):
        count = Program("program p(output);\nvar i: 1..9;\nbegin\n  for i := 2 to 3 do write(i)\nend.")
        self.assertEqual(compiled(count).code("p0")[:16], (
            "line 3", "place 0 0", "rewrite", "line 4", "place 0 2", "num 2", "store", "place 0 3", "num 3", "store", "place 0 2",
            "load", "place 0 3", "load", "le", "unless 1"))
        self.assertEqual(stops(count), ((3, 1, "p0", 0), (4, 3, "p0", 3), (4, 22, "p0", 29)))
        self.assertEqual(numbers(count), ((("i", 1), ("output", 0)),))
        head = ["proc p0 -", "takes", "gives -", "names <text> n n n", "files output", "work 3"]
        self.assertEqual(compiled(count).text.split("\n")[:6], head)

    def test_simple_ones(self):
        self.rows_are("", "line 5")
        self.rows_are(";", "line 4; line 5")
        self.rows_are("begin end", "line 4; line 4")
        self.assertEqual(body_rows("begin i := 1; end", INT), rows("line 4; line 4; place 0 2; num 1; store; line 4"))

    def test_if(self):
        self.rows_are("if b then i := 1", "line 4; <b>; load; unless 0; line 4; <i>; num 1; store; label 0")
        self.rows_are("if b then i := 1 else j := 2", (
            "line 4; <b>; load; unless 0; line 4; <i>; num 1; store; jump 1; label 0; line 4; <j>; num 2; store; label 1"))
        self.rows_are("if b then else", "line 4; <b>; load; unless 0; line 4; jump 1; label 0; line 5; label 1")

    def test_while_and_repeat(self):
        self.rows_are("while b do i := 1", "line 4; label 0; <b>; load; unless 1; line 4; <i>; num 1; store; line 4; jump 0; label 1")
        self.rows_are("repeat i := 1; j := 2 until b", (
            "line 4; label 0; line 4; <i>; num 1; store; line 4; <j>; num 2; store; line 4; <b>; load; unless 0"))
        # Labels are numbered by their rows: the inner one's stand ahead of the outer one's last.
        self.rows_are("while b do while b do", (
            "line 4; label 0; <b>; load; unless 3; line 4; label 1; <b>; load; unless 2; line 5; line 4; jump 1; label 2; line 4; jump 0;"
            " label 3"))

    def loop(self, begin, end, compare, looks, made, step):
        """The rows of a for whose statement is begin end, which has an empty one within."""
        return (
            "line 4; place 0 5; {b}; store; place 0 6; {e}; store; place 0 5; load; place 0 6; load; {c}; unless 1; {l}label 0; place 0 2;"
            " place 0 5; load; {m}store; line 4; line 4; line 4; place 0 5; load; place 0 6; load; ne; unless 1; place 0 5; place 0 5; load; num 1;"
            " {s}; store; jump 0; label 1; place 0 2; unset").format(b=begin, e=end, c=compare, l=looks, m=made, s=step)

    def test_for(self):
        def told(kind):
            return "type color = (red, green); var i: " + kind + "; j: integer; b: boolean;"

        def looked(low, high):
            return "place 0 5; load; look {0} {1}; drop; place 0 6; load; look {0} {1}; drop; ".format(low, high)

        for kind, begin, end, rows_of, looks, made in (
                ("integer", "1", "j", ("num 1", "place 0 3; load"), "", ""), ("1..9", "1", "2", ("num 1", "num 2"), looked(1, 9), ""),
                ("char", "'a'", "'b'", ("sign 97; ordc", "sign 98; ordc"), "", "chr; "),
                ("'a'..'f'", "'a'", "'b'", ("sign 97; ordc", "sign 98; ordc"), looked(97, 102), "chr; "),
                ("boolean", "b", "true", ("place 0 4; load; ordt", "truth 1; ordt"), "", "tru; "),
                ("false..true", "b", "true", ("place 0 4; load; ordt", "truth 1; ordt"), looked(0, 1), "tru; "),
                ("color", "red", "green", ("num 0", "num 1"), "", ""), ("red..green", "red", "green", ("num 0", "num 1"), looked(0, 1), "")):
            for word, compare, step in (("to", "le", "add"), ("downto", "ge", "sub")):
                body = "for i := {} {} {} do begin end".format(begin, word, end)
                found = body_rows(body, told(kind))
                want = rows(self.loop(rows_of[0], rows_of[1], compare, looks, made, step))
                self.assertEqual(found, want, body)

    def test_hidden_names_in_the_sequence_of_the_statements(self):
        text = (
            "program p;\nvar i, j: integer; r: record a: integer; q: record x: char end end;\nbegin\nfor i := 1 to 2 do with r, q do\n"
            "for j := 1 to 2 do;\nwith r do end.")
        unit = compiled(Program(text))
        self.assertEqual(unit.text.split("\n")[3], "names n n (n,(c)) n n &(n,(c)) &(c) n n &(n,(c))")

    def test_with(self):
        told = "var r: record a: integer end; q: record c: char end;"
        self.assertEqual(body_rows("with r, q, r do c := 'x'", told), rows(
            "line 4; place 0 2; bind 4; line 4; place 0 3; bind 5; line 4; place 0 2; bind 6; line 4; place 0 5; field 0; sign 120; store"))
        rows_ = code_of("program p;\n" + told + "\nbegin\nwith r,\nq\ndo\na := 1 end.")
        self.assertEqual(rows_, tuple(rows(
            "line 3; line 4; place 0 0; bind 2; line 4; place 0 1; bind 3; line 7; place 0 2; field 0; num 1; store; line 7; leave")))

    def test_case(self):
        self.rows_are("case i of 1: ; 3: i := 1 end", (
            "line 4; <i>; load; table 1 0 - 1; label 0; line 4; jump 2; label 1; line 4; <i>; num 1; store; label 2"))
        self.rows_are("case i of 5: end", "line 4; <i>; load; table 5 0; label 0; line 4; label 1")
        self.rows_are("case b of true, false: end", (
            "line 4; <b>; load; ordt; table 0 0 0; label 0; line 4; label 1"))
        self.rows_are("case i of 90, 2: ; 1: end", (
            "line 4; <i>; load; dup; num 2; le; unless 0; table 1 2 1; label 0; table 90 1; label 1; line 4; jump 3; label 2; line 4; label 3"))
        # A way that splits twice.
        self.rows_are("case i of 1, 500, 1000: end", (
            "line 4; <i>; load; dup; num 1; le; unless 0; table 1 2; label 0; dup; num 500; le; unless 1; table 500 2; label 1;"
            " table 1000 2; label 2; line 4; label 3"))

    def test_goto(self):
        told = "label 1, 2; var i, j: integer; b: boolean;"
        self.rows_are("1: i := 1; goto 1; goto 2; 2:", "label 0; line 4; <i>; num 1; store; line 4; jump 0; line 4; jump 1; label 1; line 5", told)
        text = (
            "program p;\nlabel 7;\nprocedure q; label 5; procedure r; begin goto 7; goto 5 end;\nbegin r; while false do; 5: end;\n"
            "begin if true then; q; 7: end.")
        self.assertEqual(code_of(text, "p2"), tuple(rows("line 3; line 3; far 2 1; line 3; far 1 2; line 3; leave")))
        self.assertIn("label 1", code_of(text, "p0"))
        self.assertIn("label 2", code_of(text, "p1"))

    def test_files(self):
        told = "type r = record a: integer end; var i: integer; s: 1..9; c: char; f: file of 1..5; g: file of r; h: text; x: r; l: 'a'..'b'; b: boolean;"
        for body, want in (
                ("read(i)", "place 0 2; place 0 0; readn; store"), ("read(s)", "place 0 3; place 0 0; readn; look 1 9; store"),
                ("read(c)", "place 0 4; place 0 0; readc; store"),
                ("read(l)", "place 0 9; place 0 0; readc; ordc; look 97 98; chr; store"),
                ("read(h, i, c)", "place 0 2; place 0 7; readn; store; place 0 4; place 0 7; readc; store"),
                ("readln", "place 0 0; readln"), ("readln(h)", "place 0 7; readln"),
                ("readln(h, i)", "place 0 2; place 0 7; readn; store; place 0 7; readln"),
                ("read(f, i)", "place 0 2; place 0 5; window; load; store; place 0 5; get"),
                ("read(f, s)", "place 0 3; place 0 5; window; load; look 1 9; store; place 0 5; get"),
                ("read(g, x)", "place 0 8; place 0 6; window; move; place 0 6; get"),
                ("write(i)", "place 0 1; place 0 2; load; num 10; writen"), ("write(s: i)", "place 0 1; place 0 3; load; place 0 2; load; writen"),
                ("write(c)", "place 0 1; place 0 4; load; num 1; writec"), ("write(b)", "place 0 1; place 0 10; load; num 5; writet"),
                ("write('abc')", "place 0 1; string 97 98 99; num 3; writes"),
                ("write('abc': 9, i)", "place 0 1; string 97 98 99; num 9; writes; place 0 1; place 0 2; load; num 10; writen"),
                ("writeln", "place 0 1; writeln"), ("writeln(h)", "place 0 7; writeln"),
                ("writeln(h, c)", "place 0 7; place 0 4; load; num 1; writec; place 0 7; writeln"),
                ("write(f, i)", "place 0 5; window; place 0 2; load; look 1 5; store; place 0 5; put"),
                ("write(g, x, x)", "place 0 6; window; place 0 8; move; place 0 6; put; place 0 6; window; place 0 8; move; place 0 6; put"),
                ("reset(f)", "place 0 5; reset"), ("rewrite(h)", "place 0 7; rewrite"), ("get(f)", "place 0 5; get"),
                ("put(g)", "place 0 6; put")):
            self.assertEqual(body_rows(body, told), rows("line 4; " + want), body)

    def test_new_and_dispose(self):
        told = "type p = ^r; r = record n: integer; q: p end; var a: p;"
        self.assertEqual(body_rows("new(a^.q); dispose(a)", told), rows(
            "line 4; place 0 2; load; aim; field 1; new; line 4; place 0 2; load; gone"))

    def test_calls(self):
        told = (
            "type n = 1..3; v = array [1..2] of char; d = set of 1..5; p = ^integer; var i: integer; a: v; s: d; q: p;"
            " procedure one(x: integer; y: n; z: v; var w: v; t: d; u: p); begin end; procedure none; begin end;"
            " function f(x: char): integer; begin f := 1 end;")
        self.assertEqual(body_rows("one(i, i, a, a, [], nil); none; i := f('a') + f('b')", told), rows(
            "line 4; place 0 2; load; place 0 2; load; look 1 3; place 0 3; place 0 3; set; within 1 5; nil l0; call p1; line 4; call p2;"
            " line 4; place 0 2; sign 97; call p3; sign 98; call p3; add; store"))

    def test_routines_that_are_handed(self):
        text = (
            "program p;\nprocedure a(procedure x; function y(k: integer): char; procedure z(procedure w));\nprocedure b; begin x end;\n"
            "begin x; if y(3) = 'a' then z(b); a(x, y, z); a(b, y, z) end;\nbegin\nend.")
        unit = compiled(Program(text))
        heads = unit.text.split("\n")
        self.assertEqual(heads[:3], ["signature g0 takes gives -", "signature g1 takes n gives c", "signature g2 takes @g0 gives -"])
        at = heads.index("proc p1 p0")
        self.assertEqual(heads[at + 1], "takes @g0 @g1 @g2")
        self.assertEqual(unit.code("p2"), tuple(rows("line 3; line 3; handed 1 0; callh g0; line 3; leave")))
        self.assertEqual(unit.code("p1"), tuple(rows(
            "line 4; line 4; handed 0 0; callh g0; line 4; handed 0 1; num 3; callh g1; sign 97; eq; unless 0; line 4; handed 0 2;"
            " hand p2 g0; callh g2; label 0; line 4; handed 0 0; handed 0 1; handed 0 2; call p1; line 4; hand p2 g0; handed 0 1; handed 0 2;"
            " call p1; line 4; leave")))

    def test_bodies_of_programs(self):
        self.assertEqual(code_of("program p(input, output);\nbegin\n\nend."), tuple(rows(
            "line 2; place 0 0; reset; place 0 1; rewrite; line 4; line 4; leave")))
        self.assertEqual(code_of("program p(output, f, input); var f: text;\nbegin end."), tuple(rows(
            "line 2; place 0 0; rewrite; place 0 2; reset; line 2; line 2; leave")))
        self.assertEqual(code_of("program p; begin end."), ("line 1", "line 1", "line 1", "leave"))

    def test_stops_and_numbers(self):
        text = (
            "program p(f, output);\nlabel 3;\nvar k: char; f: text;\nfunction g(a: char; var b: char): integer;\n var c: char;\n begin\n"
            "  begin c := a end;\n  g := 1;\n end;\nbegin\n k := 'a'; 3: begin ; end\nend.")
        program = Program(text)
        self.assertEqual(numbers(program), ((("f", 0), ("k", 2), ("output", 1)), (("a", 0), ("b", 1), ("c", 3), ("g", 2))))
        unit = compiled(program)
        found = stops(program)
        self.assertEqual([row[:3] for row in found], [
            (6, 2, "p1"), (7, 3, "p1"), (7, 9, "p1"), (8, 3, "p1"), (9, 2, "p1"), (10, 1, "p0"), (11, 2, "p0"), (11, 15, "p0"),
            (11, 21, "p0"), (11, 23, "p0")])
        for line, _, proc, row in found:
            self.assertEqual(unit.code(proc)[row], "line {}".format(line))
        text = "program p; function f(a: char): integer; var f, g: char; begin end; begin end."
        self.assertEqual(numbers(Program(text)), ((), (("a", 0), ("f", 1), ("f", 2), ("g", 3))))


SHORT = Program("program p; begin end.")


class TooLongTest(Refusing, unittest.TestCase):
    def long(self, number, text):
        program = Program(text)
        self.refused(TooLong, number, compiled, program)
        self.refused(TooLong, number, stops, program)
        # Ahead of all else that is wrong.
        self.refused(TooLong, number, anew, program, SHORT)
        self.refused(TooLong, number, anew, SHORT, program)
        self.refused(TooLong, number, shown_in, program, Machine(compiled(SHORT), ()), 3)
        self.refused(TooLong, number, Desk, program, 3)
        self.refused(TooLong, number, Desk(SHORT, ()).edit, 1, 1, (text,))

    def fine(self, text):
        program = Program(text)
        unit = compiled(program)
        self.assertEqual(checked(unit)[0], "let")
        self.assertEqual(least_work(unit), unit)
        self.assertGreater(len(stops(program)), 0)
        self.assertEqual(anew(program, program), ())
        self.refused(NoPlace, 3, shown_in, program, Machine(unit, ()), 3)
        desk = Desk(SHORT, ())
        desk.edit(1, 1, (text,))
        self.assertEqual([desk.program, Desk(program, ()).where()], [program, desk.where()])
        return unit

    def test_rows(self):
        # Line, then four rows each, and line and leave.
        text = "program p; var i: integer; begin " + "; ".join(["i := 1"] * 49) + "{} end."
        self.assertEqual(len(self.fine(text.format("; ")).code("p0")), 200)
        self.long(0, text.format("; ; "))

    def test_labels(self):
        """Each row label stands beside another row at least: so a hundred are too many rows."""
        def text(many):
            names = [str(k) for k in range(many)]
            return "program p; label " + ", ".join(names) + "; begin " + "; ".join(name + ":" for name in names) + " end."

        self.assertEqual(len(self.fine(text(98)).code("p0")), 199)
        self.long(0, text(99))

    def test_things(self):
        text = "program p(output); var " + ", ".join("v{}".format(k) for k in range(39)) + ": integer{}; begin end."
        self.fine(text.format(""))
        self.long(0, text.format("; x: char"))
        text = "program p; procedure q(" + ", ".join("v{}".format(k) for k in range(38)) + ": integer); var w: integer; {} begin {} end; begin end."
        self.fine(text.format("x: char;", ""))
        self.long(1, text.format("x, y: char;", ""))
        self.long(1, text.format("", "for w := 1 to 2 do"))
        self.fine(text.format("", ""))
        text = "program p; function f(" + ", ".join("v{}".format(k) for k in range(39)) + "{}: integer): integer; begin end; begin end."
        self.fine(text.format(""))
        self.long(1, text.format(", w"))

    def test_constants_of_a_case(self):
        text = "program p; begin case 1 of {}: end end."
        self.fine(text.format(", ".join(map(str, range(64)))))
        self.long(0, text.format(", ".join(map(str, range(65)))))
        self.long(0, text.format(", ".join(str(k * 1000) for k in range(65))))

    def test_values_of_a_tag(self):
        text = "program p; var r: record case k: integer of {}: () ; 99: (x: char) end; begin r.k := 1 end."
        self.fine(text.format(", ".join(map(str, range(31)))))
        self.long(0, text.format(", ".join(map(str, range(32)))))
        # That no tag is put is fine.
        self.fine(text.format(", ".join(map(str, range(32)))).replace("r.k := 1", ""))

    def test_things_on_the_workspace(self):
        def program(last):
            names = ", ".join("a{}".format(k) for k in range(33))
            call = "q(" + "1, " * 32 + "q(" + "1, " * 32 + "q(" + "1, " * 32 + last + ")))"
            return (
                "program p(output); function q(" + names + ": integer): integer; begin end; begin write(" + call + ") end.")

        # The file, 32 things twice, then 33: all lie there at once.
        self.assertEqual(self.fine(program("1")).text.split("\n")[5], "work 98")
        self.assertEqual(self.fine(program("1 + 1")).text.split("\n")[5], "work 99")
        self.long(0, program("1 + (1 + 1)"))

    def test_the_first_routine_that_is(self):
        many = "; ".join(["i := 1"] * 60)
        text = "program p; var i: integer; procedure q; begin {} end; procedure r; begin {} end; begin {} end."
        self.long(1, text.format(many, many, ""))
        self.long(2, text.format("", many, ""))
        self.long(0, text.format(many, many, many))
        # What is too long comes ahead of what wants too much of its workspace.
        names = ", ".join("a{}".format(k) for k in range(33))
        call = "i := f(" + "1, " * 32 + "f(" + "1, " * 32 + "f(" + "1, " * 32 + "1 + (1 + 1))))"
        told = " function f(" + names + ": integer): integer; begin end;"
        text = "program p; var i: integer;" + told + " procedure q; begin {} end; procedure r; begin {} end; begin end."
        self.long(2, text.format(call, ""))
        self.long(3, text.format(call, many))
        self.long(2, text.format(call, call))

    def test_work_is_the_least(self):
        for text in (
                "program p; begin end.", "program p(output); begin write(1 + 2 * 3) end.",
                "program p; procedure q; begin end; begin q end.", "program p; label 1; var i: integer; begin goto 1; i := 1 + (2 + 3); 1: end."):
            self.fine(text)
        self.assertIn("work 0", self.fine("program p; label 1; var i: integer; begin goto 1; i := 1; 1: end.").text)

    def test_work_behind_rows_that_lead_elsewhere(self):
        text = (
            "program p; label 1, 2, 3; var i: integer; procedure q; begin {} end; function f(j: integer; var k: integer): integer; begin f := 1 end; "
            "begin goto 2; 1: i := 1 + (2 + (3 + 4)); goto 2; 3: i := i + f(i + 1, i); 2: {} end.")
        def works(inner, last):
            unit = self.fine(text.format(inner, last))
            return [row for row in unit.text.split("\n") if row.startswith("work ")]

        # What is behind a goto is not come to, but by a label that a far names, in whichever routine.
        self.assertEqual(works("", ""), ["work 0", "work 0", "work 2"])
        self.assertEqual(works("goto 1", ""), ["work 5", "work 0", "work 2"])
        self.assertEqual(works("goto 3", ""), ["work 4", "work 0", "work 2"])
        self.assertEqual(works("", "case i of 1: i := 1 - i; 9: i := 2 end"), ["work 3", "work 0", "work 2"])
        self.assertEqual(works("", "case i of 1: i := 1 - i; 99: i := f(1, i) end"), ["work 3", "work 0", "work 2"])
        self.assertEqual(works("", "if i < 0 then goto 3"), ["work 4", "work 0", "work 2"])


if __name__ == "__main__":
    unittest.main()
