"""Kinds (section 7): expressions with all forms, same_kind, agree."""

import unittest

from begunended.errors import NoPlace
from begunended.kinds import agree, expressions, same_kind
from begunended.program import Program
from begunended.tokens import tokens
from tests.common import Refusing

PARTS = """type color = (red, green); small = 1..9; letter = ''''..'a'; warm = green..green; neg = -5..-1;
  aim = ^node; node = record x, y: small; n: aim; case t: color of green, red: (z: letter; w: char) end;
  tight = packed record case boolean of true: (a: integer); false: () end;
  grid = array [small, boolean] of packed array [color] of char; str = packed array [1..3] of char;
"""
VARIABLES = """var i: integer; b: boolean; c: char; k: color; s: small; l: letter; w: warm; n: node; m: tight; g: grid;
  t: str; q: aim; f: text; h: file of small; st: set of small; sc: set of color; sb: set of char; v: neg;
"""
ROUTINES = """function fun: small; begin fun := 1 end;
function sum(x: integer; y: small): letter; begin sum := 'a' end;
function point: integer; begin point := 1 end;
procedure hand(function f: small; var x: integer; y: char); begin end;
"""
SHORT = {
    "color": "(red, green)", "small": "1..9", "letter": "''''..'a'", "neg": "-5..-1",
    "node": "record x: 1..9; y: 1..9; n: ^node; case t: (red, green) of green, red: (z: ''''..'a'; w: char) end",
    "tight": "packed record case boolean of true: (a: integer); false: () end",
    "row": "packed array [(red, green)] of char", "str": "packed array [1..3] of char"}
SHORT["line"] = "array [boolean] of " + SHORT["row"]
SHORT["grid"] = "array [1..9] of " + SHORT["line"]


def program(statement):
    return Program(
        "program p(input, output);\n" + PARTS + VARIABLES + ROUTINES + "begin\n" + statement + "\nend.")


def found(statement):
    """The spans and forms of one statement that stands in a line of its own, spans as their texts."""
    whole = program(statement)
    line = whole.text[:whole.text.rindex("\n" + statement + "\nend.")].count("\n") + 2
    rows = []
    ends = {}
    for sort, told, row, column in tokens(whole.text):
        if row == line:
            ends[column] = column - 1 + (len(str(told)) + (2 if sort == "string" else 0))
    for first, begin, last, end, form in expressions(whole):
        if first == line:
            rows.append((statement[begin - 1:ends[end]], form))
    return rows


class ExpressionsTest(unittest.TestCase):
    def rows(self, statement, *wanted):
        self.assertEqual(found(statement), list(wanted), statement)

    def test_constants(self):
        self.rows("i := 5", ("i", "integer"), ("5", "integer"))
        self.rows("c := 'x'", ("c", "char"), ("'x'", "char"))
        self.rows("t := 'xyz'", ("t", SHORT["str"]), ("'xyz'", SHORT["str"]))
        self.rows("b := true", ("b", "boolean"), ("true", "boolean"))
        self.rows("k := red", ("k", "(red, green)"), ("red", "(red, green)"))
        self.rows("q := nil", ("q", "^node"), ("nil", "nil"))
        self.rows("st := []", ("st", "set of 1..9"), ("[]", "[]"))
        self.rows("i := maxint", ("i", "integer"), ("maxint", "integer"))

    def test_places_have_their_own_kinds_other_expressions_hosts(self):
        self.rows("s := s", ("s", "1..9"), ("s", "1..9"))
        self.rows("s := s + 1", ("s", "1..9"), ("s + 1", "integer"), ("s", "1..9"), ("1", "integer"))
        self.rows("l := l", ("l", SHORT["letter"]), ("l", SHORT["letter"]))
        self.rows("w := succ(w)", ("w", "green..green"), ("succ(w)", "(red, green)"), ("w", "green..green"))
        self.rows("l := pred(l)", ("l", SHORT["letter"]), ("pred(l)", "char"), ("l", SHORT["letter"]))
        self.rows("v := -v", ("v", "-5..-1"), ("-v", "integer"), ("v", "-5..-1"))
        self.rows("s := fun", ("s", "1..9"), ("fun", "integer"))
        self.rows("l := sum(1, s)", ("l", SHORT["letter"]), ("sum(1, s)", "char"), ("1", "integer"), ("s", "1..9"))
        self.rows("st := st * st", ("st", "set of 1..9"), ("st * st", "set of integer"), ("st", "set of 1..9"), (
            "st", "set of 1..9"))

    def test_records_arrays_pointers_files(self):
        self.rows("n := n", ("n", SHORT["node"]), ("n", SHORT["node"]))
        self.rows("n.x := 1", ("n.x", "1..9"), ("n", SHORT["node"]), ("1", "integer"))
        self.rows("m.a := 1", ("m.a", "integer"), ("m", SHORT["tight"]), ("1", "integer"))
        self.rows("n.n := q", ("n.n", "^node"), ("n", SHORT["node"]), ("q", "^node"))
        self.rows("q^ := n", ("q^", SHORT["node"]), ("q", "^node"), ("n", SHORT["node"]))
        self.rows("f^ := c", ("f^", "char"), ("f", "text"), ("c", "char"))
        self.rows("h^ := 1", ("h^", "1..9"), ("h", "file of 1..9"), ("1", "integer"))
        self.rows(
            "q^.n^.t := red", ("q^.n^.t", "(red, green)"), ("q^.n^", SHORT["node"]), ("q^.n", "^node"), ("q^", SHORT["node"]),
            ("q", "^node"), ("red", "(red, green)"))

    def test_v_e_of_a_row_ends_with_e(self):
        self.rows(
            "g[1, b, red] := c", ("g[1, b, red]", "char"), ("g[1, b", SHORT["row"]), ("g[1", SHORT["line"]), ("g", SHORT["grid"]),
            ("1", "integer"), ("b", "boolean"), ("red", "(red, green)"), ("c", "char"))
        self.rows(
            "g[1][b][red] := c", ("g[1][b][red]", "char"), ("g[1][b]", SHORT["row"]), ("g[1]", SHORT["line"]), ("g", SHORT["grid"]),
            ("1", "integer"), ("b", "boolean"), ("red", "(red, green)"), ("c", "char"))

    def test_operators(self):
        self.rows(
            "i := -i + 2 * s", ("i", "integer"), ("-i + 2 * s", "integer"), ("-i", "integer"), ("i", "integer"),
            ("2 * s", "integer"), ("2", "integer"), ("s", "1..9"))
        self.rows(
            "b := not b and (i < s)", ("b", "boolean"), ("not b and (i < s)", "boolean"), ("not b", "boolean"), ("b", "boolean"),
            ("i < s", "boolean"), ("i", "integer"), ("s", "1..9"))
        self.rows(
            "b := i in [1, s..5]", ("b", "boolean"), ("i in [1, s..5]", "boolean"), ("i", "integer"), ("[1, s..5]", "set of integer"),
            ("1", "integer"), ("s", "1..9"), ("5", "integer"))
        self.rows("b := w in [w]", ("b", "boolean"), ("w in [w]", "boolean"), ("w", "green..green"), (
            "[w]", "set of (red, green)"), ("w", "green..green"))
        self.rows("sb := ['a'] + sb", ("sb", "set of char"), ("['a'] + sb", "set of char"), ("['a']", "set of char"), (
            "'a'", "char"), ("sb", "set of char"))
        self.rows("st := [] - [] * st", ("st", "set of 1..9"), ("[] - [] * st", "set of integer"), ("[]", "[]"), (
            "[] * st", "set of integer"), ("[]", "[]"), ("st", "set of 1..9"))
        self.rows("st := [] + []", ("st", "set of 1..9"), ("[] + []", "[]"), ("[]", "[]"), ("[]", "[]"))
        self.rows("b := nil = q", ("b", "boolean"), ("nil = q", "boolean"), ("nil", "nil"), ("q", "^node"))

    def test_required_functions(self):
        self.rows("i := abs(s) + sqr(2)", ("i", "integer"), ("abs(s) + sqr(2)", "integer"), ("abs(s)", "integer"), (
            "s", "1..9"), ("sqr(2)", "integer"), ("2", "integer"))
        self.rows("b := odd(ord(c))", ("b", "boolean"), ("odd(ord(c))", "boolean"), ("ord(c)", "integer"), ("c", "char"))
        self.rows("c := chr(i)", ("c", "char"), ("chr(i)", "char"), ("i", "integer"))
        self.rows("b := succ(b)", ("b", "boolean"), ("succ(b)", "boolean"), ("b", "boolean"))
        self.rows("b := eof or eoln(f)", ("b", "boolean"), ("eof or eoln(f)", "boolean"), ("eof", "boolean"), (
            "eoln(f)", "boolean"), ("f", "text"))

    def test_brackets_are_no_part_of_a_whole_expression(self):
        self.rows("i := ((i))", ("i", "integer"), ("i", "integer"))
        self.rows("i := (i) + 1", ("i", "integer"), ("(i) + 1", "integer"), ("i", "integer"), ("1", "integer"))
        self.rows("i := 1 + (i)", ("i", "integer"), ("1 + (i)", "integer"), ("1", "integer"), ("i", "integer"))
        self.rows("i := (i + 1) * (2)", ("i", "integer"), ("(i + 1) * (2)", "integer"), ("i + 1", "integer"), ("i", "integer"), (
            "1", "integer"), ("2", "integer"))
        self.rows("i := (1) - (2) - (s)", ("i", "integer"), ("(1) - (2) - (s)", "integer"), ("(1) - (2)", "integer"), (
            "1", "integer"), ("2", "integer"), ("s", "1..9"))
        self.rows("i := -(1) - 2", ("i", "integer"), ("-(1) - 2", "integer"), ("-(1)", "integer"), ("1", "integer"), (
            "2", "integer"))

    def test_statements(self):
        self.rows("for i := s to 5 do b := true", ("s", "1..9"), ("5", "integer"), ("b", "boolean"), ("true", "boolean"))
        self.rows("case k of red: i := 1; green: end", ("k", "(red, green)"), ("i", "integer"), ("1", "integer"))
        self.rows("if b then i := 1 else i := 2", ("b", "boolean"), ("i", "integer"), ("1", "integer"), ("i", "integer"), (
            "2", "integer"))
        self.rows("repeat i := 1 until b", ("i", "integer"), ("1", "integer"), ("b", "boolean"))
        self.rows("while b do begin end", ("b", "boolean"))
        self.rows("with n, m do x := a", ("n", SHORT["node"]), ("m", SHORT["tight"]), ("x", "1..9"), ("a", "integer"))
        self.rows("hand(fun, i, 'a')", ("i", "integer"), ("'a'", "char"))
        self.rows("read(f, s, c)", ("f", "text"), ("s", "1..9"), ("c", "char"))
        self.rows("writeln(i: s + 1, 'abc': 2)", ("i", "integer"), ("s + 1", "integer"), ("s", "1..9"), ("1", "integer"), (
            "'abc'", SHORT["str"]), ("2", "integer"))
        self.rows("reset(input)", ("input", "text"))
        self.rows("new(q)", ("q", "^node"))
        self.rows("begin end")

    def test_function_names_on_the_left(self):
        rows = [row for row in expressions(program("")) if row[4] not in ("integer", "char")]
        self.assertIn("1..9", [row[4] for row in rows])
        self.assertIn(SHORT["letter"], [row[4] for row in rows])

    def test_places_and_sequence(self):
        whole = Program("program p;\nvar i: integer;\nbegin i :=\n 1 +\ni end.")
        self.assertEqual(expressions(whole), (
            (3, 7, 3, 7, "integer"), (4, 2, 5, 1, "integer"), (4, 2, 4, 2, "integer"), (5, 1, 5, 1, "integer")))
        self.assertEqual(expressions(Program("program p; begin end.")), ())

    def test_forms_of_records(self):
        for kind in (
                "record x: char end", "record x: char; y: char end", "packed record x: char end",
                "record case x: boolean of true: (); false: () end", "record x: char; case char of 'a', 'b': (); ' ': () end",
                "record x: char; case integer of -1, 2147483647: (y: char; case boolean of true: (z: char)); 0: () end",
                "record x: record y: char end; z: packed array [0..1] of set of char end",
                "array [char] of array [-1..1] of ^q", "packed array [(a, b)] of false..true",
                "set of 'a'..'b'", "set of (a, b)", "record x: ^q end"):
            whole = Program("program p; type q = char; var v: " + kind + "; begin v := v end.")
            self.assertEqual([row[4] for row in expressions(whole)], [kind, kind])
        rows = {
            "record x, y: q; z: q; end": "record x: char; y: char; z: char end",
            "array [boolean, 1..one] of q": "array [boolean] of array [1..1] of char",
            "packed array [1..2, 1..2] of q": "packed array [1..2] of packed array [1..2] of char",
            "record case t: boolean of yes: (x: q;); end": "record case t: boolean of true: (x: char) end",
            "record x: q; case integer of one, +2, -one: (); end": "record x: char; case integer of 1, 2, -1: () end",
            "ARRAY ['A'..'B'] OF ^Q": "array ['A'..'B'] of ^q"}
        for kind, form in rows.items():
            whole = Program("program p; const one = 1; yes = true; type q = char; var v: " + kind + "; begin v := v end.")
            self.assertEqual([row[4] for row in expressions(whole)], [form, form])


class AlikeTest(Refusing, unittest.TestCase):
    TEXT = """program p;
type t = 1..3; r = record x: t; y: t; u, v: set of t end; s = set of 0..9; a = array [t] of char;
  q = packed array [1..3] of char; col = (red, blue);
var one, two: integer;
  three: 1..3; four: t; five: t; six: char;
  seven, eight: array [t] of char; nine: array [t] of char; ten: a; eleven: a;
  sa: s; sb: set of char; sc: set of 'a'..'b'; str: q; sts: packed array [1..3] of char; f, g: text; h: file of char;
  pa, pb: ^t; pc: ^t; ca: col; cb: red..blue; rec: r;
procedure w(n1: t; var n2: integer; procedure n3; n4: q); begin end;
begin end.
"""

    def setUp(self):
        self.program = Program(self.TEXT)

    def place(self, name):
        for number, row in enumerate(self.TEXT.split("\n"), 1):
            parts = row.replace(",", " ").replace(":", " ").replace("(", " ").replace(";", " ").split(" ")
            if name in parts and number > 1:
                at = (" " + row.replace(",", " ").replace(":", " ").replace("(", " ").replace(";", " ")).index(" " + name + " ")
                return number, at + 1
        raise AssertionError(name)

    def alike(self, one, other, is_same, does_agree):
        for first, second in ((one, other), (other, one)):
            places = self.place(first), self.place(second)
            self.assertIs(same_kind(self.program, *places), is_same, (one, other))
            self.assertIs(agree(self.program, *places), does_agree, (one, other))

    def test_alike(self):
        rows = [
            ("one", "one", True, True), ("one", "two", True, True), ("one", "three", False, True), ("three", "four", False, True),
            ("four", "five", True, True), ("one", "six", False, False), ("seven", "eight", True, True), ("seven", "nine", False, False),
            ("seven", "ten", False, False), ("ten", "eleven", True, True), ("sa", "sb", False, False), ("sb", "sc", False, True),
            ("str", "sts", False, True), ("str", "nine", False, False), ("f", "g", True, True), ("f", "h", False, False),
            ("pa", "pb", True, True), ("pa", "pc", False, False), ("ca", "cb", False, True), ("ca", "one", False, False),
            ("rec", "rec", True, True), ("rec", "ten", False, False), ("sa", "u", False, True), ("u", "v", True, True),
            ("x", "y", True, True), ("x", "four", True, True), ("n1", "four", True, True), ("n2", "one", True, True),
            ("n4", "str", True, True), ("n4", "sts", False, True), ("n1", "n2", False, True), ("x", "u", False, False)]
        for row in rows:
            self.alike(*row)

    def test_no_place(self):
        good = self.place("one")
        bad = [
            (1, 9), (2, 6), self.place("w"), self.place("n3"), self.place("red"), (4, 1), (4, 6), (0, 0), (99, 1), (4, 14), (4,),
            (4, 5, 1), [4, 5], (4, True), (True, 5), None, 5, "4, 5", (4, "5"), (None, None), {}, ((4, 5),)]
        for function in (same_kind, agree):
            for value in bad:
                self.refused(NoPlace, value, function, self.program, value, good)
                self.refused(NoPlace, value, function, self.program, good, value)
                self.refused(NoPlace, value, function, self.program, value, (1, 1))
        self.assertEqual(good, (4, 5))


if __name__ == "__main__":
    unittest.main()
