"""Regions (section 6): what uses mean, what is told, renaming."""

import re
import unittest

from begunended.errors import BadValue, Caught, NoPlace
from begunended.heap import Heap
from begunended.program import Program
from begunended.regions import jumps, names, renamed, routines, tellings
from begunended.trees import tree
from tests.common import Refusing

TEXT = """program names(output, f);
label 1;
const c = 2; d = c;
type ptr = ^rec; color = (red, green);
  rec = record x, y: integer; case tag: color of red: (z: ptr) end;
var f: file of color; r: rec; x: integer;
procedure later(x: integer; procedure q(u: color)); forward;
function fun(var x: ptr): color;
  label 2;
  var c: rec;
begin
  with c do x := 1;
  x^.y := d; fun := red; goto 1; 2: goto 2
end;
procedure later;
  const red = 5;
  procedure inner; begin q(green); goto 1 end;
begin
  with r do begin z^.z := nil; tag := fun(z) end;
  x := red; later(x, q)
end;
begin
  for x := 1 to 3 do writeln(x);
  1: if true then goto 1
end."""


class RegionsTest(unittest.TestCase):
    def setUp(self):
        self.program = Program(TEXT)

    def place(self, line, word, number=1):
        """Where a word stands in a line, the first time or a later one."""
        found = list(re.finditer(r"\b" + word + r"\b", TEXT.split("\n")[line - 1]))
        return line, found[number - 1].start() + 1

    def test_names(self):
        wanted = [
            (self.place(1, "output"), (0, 0)), (self.place(1, "f"), self.place(6, "f")),
            (self.place(3, "c", 2), self.place(3, "c")), (self.place(4, "rec"), self.place(5, "rec")),
            (self.place(5, "integer"), (0, 0)), (self.place(5, "color"), self.place(4, "color")),
            (self.place(5, "red"), self.place(4, "red")), (self.place(5, "ptr"), self.place(4, "ptr")),
            (self.place(6, "color"), self.place(4, "color")), (self.place(6, "rec"), self.place(5, "rec")),
            (self.place(6, "integer"), (0, 0)), (self.place(7, "integer"), (0, 0)),
            (self.place(7, "color"), self.place(4, "color")), (self.place(8, "ptr"), self.place(4, "ptr")),
            (self.place(8, "color"), self.place(4, "color")), (self.place(10, "rec"), self.place(5, "rec")),
            (self.place(12, "c"), self.place(10, "c")), (self.place(12, "x"), self.place(5, "x")),
            (self.place(13, "x"), self.place(8, "x")), (self.place(13, "y"), self.place(5, "y")),
            (self.place(13, "d"), self.place(3, "d")), (self.place(13, "fun"), self.place(8, "fun")),
            (self.place(13, "red"), self.place(4, "red")), (self.place(15, "later"), self.place(7, "later")),
            (self.place(17, "q"), self.place(7, "q")), (self.place(17, "green"), self.place(4, "green")),
            (self.place(19, "r"), self.place(6, "r")), (self.place(19, "z"), self.place(5, "z")),
            (self.place(19, "z", 2), self.place(5, "z")), (self.place(19, "tag"), self.place(5, "tag")),
            (self.place(19, "fun"), self.place(8, "fun")), (self.place(19, "z", 3), self.place(5, "z")),
            (self.place(20, "x"), self.place(7, "x")), (self.place(20, "red"), self.place(16, "red")),
            (self.place(20, "later"), self.place(7, "later")), (self.place(20, "x", 2), self.place(7, "x")),
            (self.place(20, "q"), self.place(7, "q")), (self.place(23, "x"), self.place(6, "x")),
            (self.place(23, "writeln"), (0, 0)), (self.place(23, "x", 2), self.place(6, "x")),
            (self.place(24, "true"), (0, 0))]
        self.assertEqual(names(self.program), tuple(sorted([one + other for one, other in wanted])))

    def test_tellings(self):
        rows = [
            (3, "c", "constant", 0), (3, "d", "constant", 0), (4, "ptr", "kind", 0), (4, "color", "kind", 0),
            (4, "red", "value", 0), (4, "green", "value", 0), (5, "rec", "kind", 0), (5, "x", "field", 0),
            (5, "y", "field", 0), (5, "tag", "field", 0), (5, "z", "field", 0), (6, "f", "variable", 0),
            (6, "r", "variable", 0), (6, "x", "variable", 0), (7, "later", "routine", 0), (7, "x", "parameter", 1),
            (7, "q", "parameter", 1), (8, "fun", "routine", 0), (8, "x", "parameter", 1), (10, "c", "variable", 1),
            (16, "red", "constant", 1), (17, "inner", "routine", 1)]
        self.assertEqual(
            tellings(self.program), tuple([(*self.place(line, word), told, level) for line, word, told, level in rows]))

    def test_routines(self):
        self.assertEqual(routines(self.program), (
            ("names", 0, None), ("later", 1, 0), ("fun", 1, 0), ("inner", 2, 1)))
        deep = Program(
            "program p; procedure a; procedure b; begin end; procedure c; procedure d; begin end; begin end; begin end;"
            " procedure e; begin end; begin end.")
        self.assertEqual(routines(deep), (
            ("p", 0, None), ("a", 1, 0), ("b", 2, 1), ("c", 2, 1), ("d", 3, 3), ("e", 1, 0)))

    def test_jumps(self):
        self.assertEqual(jumps(self.program), (
            (13, 31, 24, 3, 1), (13, 42, 13, 34, 0), (17, 41, 24, 3, 2), (24, 24, 24, 3, 0)))

    def test_nothing_is_told_or_used(self):
        program = Program("program p; begin end.")
        self.assertEqual((names(program), tellings(program), jumps(program)), ((), (), ()))
        self.assertEqual(routines(program), (("p", 0, None),))

    def test_properties_and_equality(self):
        self.assertEqual(self.program.text, TEXT)
        self.assertEqual(self.program.tree, tree(TEXT))
        self.assertEqual(self.program, Program(text=TEXT))
        self.assertNotEqual(self.program, Program(TEXT + " "))
        for other in (TEXT, self.program.tree, None, 0, Heap(1)):
            self.assertFalse(self.program == other)
            self.assertTrue(self.program != other)

    def test_required_names_told_anew(self):
        program = Program(
            "program p(output);\nprocedure q(read: integer);\ntype integer = char; var writeln: integer;\n"
            "begin writeln := 'a'; read := 1 end;\nbegin writeln end.")
        self.assertEqual(names(program), (
            (1, 11, 0, 0), (2, 19, 0, 0), (3, 16, 0, 0), (3, 35, 3, 6), (4, 7, 3, 26), (4, 23, 2, 13), (5, 7, 0, 0)))

    def test_with_goes_ahead_of_all_regions(self):
        program = Program(
            "program p; var a: record b: record a, c: integer end end; c: integer;\n"
            "begin with a do c := 1; with a, b do a := c; with a do with b do a := c end.")
        found = {row[:2]: row[2:] for row in names(program)}
        self.assertEqual([found[(2, at)] for at in (12, 17, 30, 33, 38, 43, 51, 61, 66, 71)], [
            (1, 16), (1, 59), (1, 16), (1, 26), (1, 36), (1, 39), (1, 16), (1, 26), (1, 36), (1, 39)])


class RenamedTest(Refusing, unittest.TestCase):
    def other(self, text, line, column, name):
        program = renamed(Program(text), line, column, name)
        self.assertIsInstance(program, Program)
        return program.text

    def test_renamed(self):
        text = "program p(f);\nvar F: text; x: integer;\nbegin reset(f); {f} x := 1 end."
        self.assertEqual(self.other(text, 2, 5, "abc"), (
            "program p(abc);\nvar abc: text; x: integer;\nbegin reset(abc); {f} x := 1 end."))
        self.assertEqual(self.other(text, 2, 14, "y"), text.replace("x", "y").replace("teyt", "text"))
        self.assertEqual(self.other(text, 2, 14, "x"), text)
        self.assertEqual(self.other(text, 2, 14, "p"), (
            "program p(f);\nvar F: text; p: integer;\nbegin reset(f); {f} p := 1 end."))

    def test_all_sorts_of_tellings(self):
        for head, name in (
                ("const @a = 1; b = a;", "c"), ("type @a = char; var b: a;", "c"), ("type t = (@a, b); s = a..b;", "c"),
                ("procedure @a; forward; procedure a; begin a end;", "c"), ("type b = ^a; @a = char;", "c"),
                ("procedure q(@a: char); begin a := 'a' end;", "c"),
                ("procedure q(procedure @a); begin a end;", "c"), ("var r: record @a: char end; b: char;", "b"),
                ("function @a: char; begin a := 'x' end;", "forwards")):
            text = "program p; " + head + " begin end."
            at = text.index("@") + 1
            clean = text.replace("@", "")
            program = renamed(Program(clean), 1, at, name)
            self.assertEqual(len(names(program)), len(names(Program(clean))))
            self.assertNotEqual(program, Program(clean))
            self.assertEqual(renamed(program, 1, at, "a"), Program(clean))

    def test_fields_and_with(self):
        text = "program p; var r: record x, y: integer end; z: integer; begin with r do x := z; r.x := 1 end."
        self.assertEqual(self.other(text, 1, 26, "long"), text.replace("x", "long"))
        program = Program(text)
        self.refused(Caught, (1, 26), renamed, program, 1, 26, "y")
        self.refused(Caught, (1, 26), renamed, program, 1, 26, "z")
        self.refused(Caught, (1, 45), renamed, program, 1, 45, "x")
        self.assertEqual(self.other(text, 1, 26, "r").count("r"), text.count("r") + 3)

    def test_second_headings_go_along(self):
        text = "program p; procedure a; forward; procedure b; begin a end; procedure a; begin b end; begin a end."
        self.assertEqual(self.other(text, 1, 22, "c"), text.replace(" a", " c"))
        self.refused(Caught, (1, 22), renamed, Program(text), 1, 22, "b")
        self.refused(Caught, (1, 44), renamed, Program(text), 1, 44, "a")

    def test_no_program(self):
        program = Program("program p(f); var f: text; x, y: integer; begin x := y; y := maxint end.")
        self.refused(Caught, (1, 28), renamed, program, 1, 28, "y")
        self.refused(Caught, (1, 28), renamed, program, 1, 28, "integer")
        self.refused(Caught, (1, 19), renamed, program, 1, 19, "text")
        self.refused(Caught, (1, 28), renamed, program, 1, 28, "maxint")
        kinds = Program("program p; const a = 1; procedure q; const b = a; begin end; begin end.")
        self.refused(Caught, (1, 44), renamed, kinds, 1, 44, "a")

    def test_another_telling_is_meant(self):
        program = Program(
            "program p;\nvar x, y: integer;\nprocedure q(z: integer);\nbegin x := z; y := 1 end;\nbegin end.")
        self.refused(Caught, (3, 13), renamed, program, 3, 13, "x")
        self.refused(Caught, (2, 5), renamed, program, 2, 5, "z")
        self.assertEqual(renamed(program, 3, 13, "q").text.count("q"), 3)
        required = Program("program p; var x: integer; begin x := abs(x) end.")
        self.refused(Caught, (1, 16), renamed, required, 1, 16, "abs")
        self.assertEqual(renamed(required, 1, 16, "sqr").text, required.text.replace("x", "sqr"))

    def test_no_place(self):
        program = Program("program p; var x: integer; procedure q(procedure r(y: char)); begin end; begin x := 1 end.")
        for line, column in (
                (1, 9), (1, 52), (1, 19), (1, 80), (1, 1), (0, 0), (2, 16), (-1, 16), (True, 16), (1, None), ("1", 16),
                (1, (16,)), ((1, 16), 1), (None, None), ([1], [16]), (1, True)):
            self.refused(NoPlace, (line, column), renamed, program, line, column, "abc")
        self.refused(NoPlace, (1, 9), renamed, program, 1, 9, "NO")

    def test_bad_value(self):
        program = Program("program p; var x: integer; begin x := 1 end.")
        for name in (
                "forward", "begin", "X", "xY", "", " x", "x ", "1x", "x_y", "x y", "{}x", "x{}", "x\n", "'x'", "(*", None, 1,
                True, ("x",), ["x"], b"x", {}):
            self.refused(BadValue, name, renamed, program, 1, 16, name)
        for name in ("forwards", "x1", "p", "beginn", "z" * 50, "read"):
            self.assertIn(name, renamed(program, 1, 16, name).text)

    def test_nothing_is_changed(self):
        program = Program(TEXT)
        before = names(program), tellings(program)
        renamed(program, 3, 7, "other")
        self.assertEqual((names(program), tellings(program), program.text), (*before, TEXT))


if __name__ == "__main__":
    unittest.main()
