"""Running (section 8): surroundings, names, routines that are handed on."""

import unittest

from begunended.program import Program
from begunended.running import run, seen
from tests.common import Running, ran


class SurroundingsTest(Running, unittest.TestCase):
    def test_examples_of_the_document(self):
        sums = Program(
            "program a(output);\nvar i, s: integer;\nbegin s := 0;\n  for i := 1 to 4 do s := s + i * i;\n"
            "  writeln(s: 3) end.")
        self.assertEqual(run(sums, (), 100), ((("output", " 30\n"),), ("done",)))
        self.assertEqual(run(sums, (), 3), ((("output", ""),), ("on",)))
        self.assertEqual(seen(sums, (), 5), ("stop", 4, 22, ("a",), (("i", 2), ("output", "file"), ("s", 1))))
        handed = Program(
            "program b(output);\nprocedure none; begin end;\nprocedure p(procedure q; n: integer);\n"
            "  procedure r; begin writeln(n: 1) end;\nbegin if n = 0 then q else p(r, n - 1) end;\n"
            "begin p(none, 2) end.")
        self.assertEqual(run(handed, (), 100), ((("output", "1\n"),), ("done",)))

    def test_names_told_anew_further_in(self):
        told = (
            "const c = 1; var x, y: integer; procedure q; const c = 7; var x: char; begin x := 'z'; write(x, c: 2) end;"
            "procedure r(y: integer); procedure s; begin y := y + 1; x := y end; begin s; write(y: 2) end;")
        self.writes("z 7 8 8 3", told, "x := 1; y := 3; q; r(7); write(x: 2, y: 2)")
        told = "procedure q; var integer: char; begin integer := 'k'; write(integer) end;"
        self.writes("k", told, "q")

    def test_a_field_meant_by_with_comes_ahead_of_all(self):
        told = "var x: integer; r: record x: integer end; procedure q; begin x := 5 end;"
        self.writes(" 1 5", told, "x := 9; with r do begin x := 1; q; write(x: 2) end; write(x: 2)")

    def test_recursion_by_value_and_by_var(self):
        told = (
            "var n: integer; function f(n: integer): integer; begin if n < 2 then f := 1 else f := n * f(n - 1) end;"
            " procedure up(var n: integer; k: integer); begin if k > 0 then begin n := n + k; up(n, k - 1) end end;")
        self.writes("120 10", told, "write(f(5): 3); n := 0; up(n, 4); write(n: 3)")

    def test_one_cell_under_two_names(self):
        told = (
            "var a: integer; b: array [1..3] of integer; procedure two(var x, y: integer; z: integer);"
            " begin x := 1; y := 2; write(x: 2, y: 2, z: 2); a := 7; write(x: 2) end;")
        self.writes(" 2 2 9 7", told, "a := 9; two(a, a, a)")
        self.writes(" 1 2 0 1", told, "b[1] := 0; b[2] := 0; two(b[1], b[2], b[1])")

    def test_a_pointer_handed_by_value_can_have_a_new_piece(self):
        told = "type p = ^integer; var a: p; procedure q(x: p); begin new(x); x^ := 3; write(x^: 2, a^: 2) end;"
        self.writes(" 3 8", told, "new(a); a^ := 8; q(a)")

    def test_arrays_and_records_are_copied_by_value(self):
        told = (
            "type v = array [1..2] of integer; var a: v; procedure q(b: v; var c: v);"
            " begin b[1] := 5; c[2] := 6; write(b[1]: 2, b[2]: 2, a[1]: 2, a[2]: 2) end;")
        self.writes(" 5 2 1 6", told, "a[1] := 1; a[2] := 2; q(a, a)")

    def test_routines_handed_through_recursion_keep_their_surroundings(self):
        told = (
            "procedure go(n: integer; function f(k: integer): integer);"
            " function here(k: integer): integer; begin here := k * 10 + n end;"
            " begin write(f(n): 4); if n < 3 then go(n + 1, here) end;"
            " function first(k: integer): integer; begin first := -k end;")
        # At each depth what was handed was named one depth further out.
        self.writes("  -1  21  32", told, "go(1, first)")

    def test_a_handed_routine_is_called_where_newer_surroundings_are(self):
        text = (
            "program p(output); procedure q(n: integer; procedure a); var x: integer;"
            " procedure inner; begin x := x + 1; write(n: 2, x: 2) end;"
            " begin x := n * 2; if n = 1 then q(2, inner) else begin a; inner; a end end;"
            " procedure none; begin end; begin q(1, none) end.")
        self.assertEqual(ran(text)[0], " 1 3 2 5 1 4")

    def test_a_handed_routine_takes_routines(self):
        told = (
            "procedure show(n: integer); begin write(n: 2) end;"
            " procedure twice(procedure p(k: integer)); begin p(1); p(2) end;"
            " procedure run(procedure t(procedure p(k: integer))); begin t(show) end;")
        self.writes(" 1 2", told, "run(twice)")

    def test_a_parameter_is_handed_on(self):
        told = (
            "procedure a(procedure p; n: integer); begin if n = 0 then p else a(p, n - 1) end;"
            " procedure b; var k: integer; procedure c; begin write(k: 2) end; begin k := 4; a(c, 3) end;")
        self.writes(" 4", told, "b")

    def test_forward(self):
        told = (
            "function odds(n: integer): boolean; forward; function evens(n: integer): boolean;"
            " begin if n = 0 then evens := true else evens := odds(n - 1) end;"
            " function odds; begin if n = 0 then odds := false else odds := evens(n - 1) end;")
        self.writes(" true", told, "write(odds(7): 5)")

    def test_deep_at_two_hundred_surroundings(self):
        told = "procedure q(n: integer); begin if n > 1 then q(n - 1) else write('x') end;"
        self.writes("x", told, "q(199)")
        text = "program p(output); procedure q(n: integer);\nbegin\nif n > 1 then\nq(n - 1) end; begin\n\nq(200) end."
        self.assertEqual(ran(text), ("", ("trap", "deep", 4)))
        # What is handed is looked at ahead of the depth.
        text = "program p(output); procedure q(n: integer);\nbegin q(n + 1 + 0 * (1 div (199 - n))) end; begin q(1) end."
        self.assertEqual(ran(text)[1], ("trap", "nought", 2))

    def test_a_function_calls_itself_where_it_is_an_expression(self):
        told = "var k: integer; function f: integer; begin k := k + 1; if k < 3 then f := f + 1 else f := 10 end;"
        self.writes("12", told, "k := 0; write(f: 2)")

    def test_an_inner_routine_puts_the_result_of_an_outer_one(self):
        told = "function f: integer; procedure g; begin f := 8 end; begin g end;"
        self.writes(" 8", told, "write(f: 2)")


if __name__ == "__main__":
    unittest.main()
