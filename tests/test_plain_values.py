"""The plain code of names, places, sums (section 14)."""

import unittest

from begunended.checking import checked
from begunended.compiling import compiled
from begunended.program import Program

KINDS = (
    "type color = (red, green, blue); small = 1..9; letter = 'b'..'y'; truth = false..true; warm = red..green;"
    " digits = set of 1..5; row = array [3..5] of integer; word = packed array [1..2] of char; ptr = ^node;"
    " node = record n: integer; q: ptr end; shape = record x: integer; case t: boolean of true: (a, b: integer);"
    " false: (c: char; case color of green, red: (d: integer); blue: (e: row)) end; free = record case integer of"
    " 1: (f: integer; case k: char of 'a': (g: integer)) end;")
VARS = (
    " var i: integer; b: boolean; c: char; k: color; s: small; l: letter; u: truth; m: warm; d: digits; a: set of char;"
    " v: row; w: word; p: ptr; o: shape; z: free; f: file of node; h: text; y: array [char, color] of row;")
NAMES = "i b c k s l u m d a v w p o z f h y".split()
AT = {name: "place 0 {}".format(number + 2) for number, name in enumerate(NAMES)}


def code_of(text, proc="p0"):
    program = Program(text)
    unit = compiled(program)
    assert checked(unit)[0] == "let", checked(unit)
    return unit.code(proc)


def body_rows(body, told=KINDS + VARS, head="input, output"):
    """The rows of the statements of a program, its first row and the last two aside."""
    rows = code_of("program p(" + head + ");\n" + told + "\nbegin\n" + body + "\nend.")
    many = 1 + 2 * len([name for name in head.split(", ") if name in ("input", "output")])
    assert rows[0] == "line 3" and rows[-2:] == ("line 5", "leave"), rows
    return list(rows[many:-2])


def rows(text):
    return text.split("; ")


def with_places(text):
    """Rows parted by semicolons; a name in angle brackets is its place."""
    for name, place in AT.items():
        text = text.replace("<" + name + ">", place)
    return text.split("; ")


class PlainValuesTest(unittest.TestCase):
    def put(self, body, told):
        self.assertEqual(body_rows(body), with_places("line 4; " + told), body)

    def test_heads(self):
        unit = compiled(Program("program p(input, output, f);\n" + KINDS + VARS + " begin end."))
        head = unit.text.split("\n")[:8]
        self.assertEqual(head, [
            "layout l0 (n,^l0)", "proc p0 -", "takes", "gives -",
            "names <text> <text> <(n,^l0)> n t c n n c t n s s 3*n 2*c ^l0 (n,t,{(n,n)|(c,{(n)|(3*n)|()})|()})"
            " ({(n,c,{(n)|()})|()}) <text> 95*3*3*n", "files input output f", "work 1", "line 2"])

    def test_places(self):
        self.put("i := 1", "<i>; num 1; store")
        self.put("v[i] := 1", "<v>; <i>; load; index 3 5; num 1; store")
        self.put("y[c, k] := v", "<y>; <c>; load; ordc; index 32 126; <k>; load; index 0 2; <v>; move")
        self.put("y[c][k][4] := 2", "<y>; <c>; load; ordc; index 32 126; <k>; load; index 0 2; num 4; index 3 5; num 2; store")
        self.put("p^.n := 1", "<p>; load; aim; field 0; num 1; store")
        self.put("p^.q^.q := p", "<p>; load; aim; field 1; load; aim; field 1; <p>; load; store")
        self.put("f^.n := 1", "<f>; window; field 0; num 1; store")
        self.put("h^ := c", "<h>; window; <c>; load; store")
        self.put("o.x := o.a", "<o>; field 0; <o>; field 2; arm 0; field 0; load; store")
        self.put("o.b := o.d", "<o>; field 2; arm 0; field 1; <o>; field 2; arm 1; field 1; arm 0; field 0; load; store")

    def test_arms_with_and_without_a_tag_on_the_left_side(self):
        self.put("o.c := c", "<o>; field 2; arm 1; field 0; <c>; load; store")
        self.put("o.d := 1", "<o>; field 2; arm 1; field 1; dup; become 0; arm 0; field 0; num 1; store")
        self.put("o.e[3] := 1", "<o>; field 2; arm 1; field 1; dup; become 1; arm 1; field 0; num 3; index 3 5; num 1; store")
        self.put("z.f := z.f", "<z>; field 0; dup; become 0; arm 0; field 0; <z>; field 0; arm 0; field 0; load; store")
        self.put("z.g := 2", "<z>; field 0; dup; become 0; arm 0; field 2; arm 0; field 0; num 2; store")
        # Not within indices, and in no other places.
        self.put("v[z.f] := 1", "<v>; <z>; field 0; arm 0; field 0; load; index 3 5; num 1; store")
        self.put("read(z.f)", "<z>; field 0; arm 0; field 0; place 0 0; readn; store")
        self.put("with z do f := f", (
            "<z>; bind 20; line 4; place 0 20; field 0; dup; become 0; arm 0; field 0; place 0 20; field 0; arm 0; field 0; load; store"))
        # Behind the last ^ or window alone.
        told = (
            "type p = ^r; r = record case boolean of true: (q: p; g: integer) end; var a: r; f: file of r; n: integer;")
        self.assertEqual(body_rows("a.q^.g := 1", told), rows(
            "line 4; place 0 2; field 0; arm 0; field 0; load; aim; field 0; dup; become 0; arm 0; field 1; num 1; store"))
        self.assertEqual(body_rows("with a do q^.g := 1", told), rows(
            "line 4; place 0 2; bind 5; line 4; place 0 5; field 0; arm 0; field 0; load; aim; field 0; dup; become 0; arm 0; field 1;"
            " num 1; store"))
        self.assertEqual(body_rows("new(a.q)", told), rows("line 4; place 0 2; field 0; arm 0; field 0; new"))
        self.assertEqual(body_rows("f^.g := 1", told.replace("q: p; ", "")), rows(
            "line 4; place 0 3; window; field 0; dup; become 0; arm 0; field 0; num 1; store"))

    def test_tags(self):
        self.put("o.t := b", (
            "<o>; dup; field 1; <b>; load; store; dup; field 1; load; ordt; lives 2 0 1 1 0"))
        self.put("z.k := c", (
            "<z>; field 0; dup; become 0; arm 0; dup; field 1; <c>; load; store; dup; field 1; load; ordc; lives 1 97 0"))
        told = "type r = record case k: integer of 7, -3: (x: char); 5: () end; var a: r;"
        self.assertEqual(body_rows("a.k := 5", told), rows(
            "line 4; place 0 2; dup; field 0; num 5; store; dup; field 0; load; lives 2 -3 0 5 1 7 0"))
        told = "type s = 1..3; r = record case k: s of 1: (x: char) end; var a: r;"
        self.assertEqual(body_rows("with a do k := 2", told), rows(
            "line 4; place 0 2; bind 3; line 4; place 0 3; dup; field 0; num 2; look 1 3; store; dup; field 0; load; lives 1 1 0"))

    def test_fields_meant_by_with(self):
        self.put("with o, p^ do x := n", (
            "<o>; bind 20; line 4; <p>; load; aim; bind 21; line 4; place 0 20; field 0; place 0 21; field 0; load; store"))
        self.put("with o do d := 1", (
            "<o>; bind 20; line 4; place 0 20; field 2; arm 1; field 1; dup; become 0; arm 0; field 0; num 1; store"))
        self.put("with p^ do q^.n := 1", (
            "<p>; load; aim; bind 20; line 4; place 0 20; field 1; load; aim; field 0; num 1; store"))

    def test_constants(self):
        self.put("i := 2147483647", "<i>; num 2147483647; store")
        self.put("i := maxint", "<i>; num 2147483647; store")
        self.put("k := blue", "<k>; num 2; store")
        self.put("c := 'a'", "<c>; sign 97; store")
        self.put("b := true", "<b>; truth 1; store")
        self.put("b := false", "<b>; truth 0; store")
        self.put("w := 'a~'", "<w>; string 97 126; move")
        self.put("p := nil", "<p>; nil l0; store")
        self.put("p := p^.q", "<p>; <p>; load; aim; field 1; load; store")
        told = "const a = -5; b = 'x'; c = 'xy'; d = +a; e = true; var i: integer; k: char; w: packed array [1..2] of char; t: boolean;"
        self.assertEqual(body_rows("i := a; k := b; w := c; i := d; t := e", told), rows(
            "line 4; place 0 2; num -5; store; line 4; place 0 3; sign 120; store; line 4; place 0 4; string 120 121; move; line 4;"
            " place 0 2; num -5; store; line 4; place 0 5; truth 1; store"))

    def test_sums(self):
        self.put("i := +i", "<i>; <i>; load; store")
        self.put("i := -i", "<i>; <i>; load; neg; store")
        self.put("i := -5", "<i>; num 5; neg; store")
        self.put("b := not b", "<b>; <b>; load; not; store")
        for sign, order in (("+", "add"), ("-", "sub"), ("*", "mul"), ("div", "div"), ("mod", "mod")):
            self.put("i := i {} s".format(sign), "<i>; <i>; load; <s>; load; {}; store".format(order))
        for sign, order in (("+", "join"), ("-", "less"), ("*", "meet")):
            self.put("a := a {} ['x']".format(sign), "<a>; <a>; load; sign 120; ordc; one; {}; within 32 126; store".format(order))
        for sign in ("and", "or"):
            self.put("b := b {} u".format(sign), "<b>; <b>; load; <u>; load; {}; store".format(sign))

    def test_comparisons(self):
        orders = (("=", "eq"), ("<>", "ne"), ("<", "lt"), ("<=", "le"), (">", "gt"), (">=", "ge"))
        for sign, order in orders:
            self.put("b := i {} 3".format(sign), "<b>; <i>; load; num 3; {}; store".format(order))
            self.put("b := c {} l".format(sign), "<b>; <c>; load; <l>; load; {}; store".format(order))
            self.put("b := b {} u".format(sign), "<b>; <b>; load; <u>; load; {}; store".format(order))
            self.put("b := k {} red".format(sign), "<b>; <k>; load; num 0; {}; store".format(order))
            self.put("b := w {} 'ab'".format(sign), "<b>; <w>; string 97 98; text {}; store".format(order))
            self.put("b := 'a' {} 'b'".format(sign), "<b>; sign 97; sign 98; {}; store".format(order))
        for sign, order in (("=", "seq"), ("<>", "sne"), ("<=", "inside"), (">=", "around")):
            self.put("b := d {} []".format(sign), "<b>; <d>; load; set; {}; store".format(order))
            self.put("b := [] {} []".format(sign), "<b>; set; set; {}; store".format(order))
        for sign, order in (("=", "same"), ("<>", "unlike")):
            self.put("b := p {} p".format(sign), "<b>; <p>; load; <p>; load; {}; store".format(order))
            self.put("b := p {} nil".format(sign), "<b>; <p>; load; nil l0; {}; store".format(order))
            self.put("b := nil {} p".format(sign), "<b>; nil l0; <p>; load; {}; store".format(order))
        self.put("b := nil = nil", "<b>; truth 1; store")
        self.put("b := nil <> nil", "<b>; truth 0; store")

    def test_sets_and_in(self):
        self.put("d := []", "<d>; set; within 1 5; store")
        self.put("d := [i, 1..i, 4]", "<d>; <i>; load; one; num 1; <i>; load; span; join; num 4; one; join; within 1 5; store")
        self.put("a := [c..'z']", "<a>; <c>; load; ordc; sign 122; ordc; span; within 32 126; store")
        self.put("b := [b] = [true]", "<b>; <b>; load; ordt; one; truth 1; ordt; one; seq; store")
        self.put("b := c in a", "<b>; <c>; load; ordc; <a>; load; in; store")
        self.put("b := i in []", "<b>; <i>; load; set; in; store")
        self.put("b := b in [u]", "<b>; <b>; load; ordt; <u>; load; ordt; one; in; store")

    def test_required_functions(self):
        for name in ("abs", "sqr"):
            self.put("i := {}(i)".format(name), "<i>; <i>; load; {}; store".format(name))
        self.put("b := odd(s)", "<b>; <s>; load; odd; store")
        self.put("c := chr(i)", "<c>; <i>; load; chr; store")
        self.put("i := ord(i)", "<i>; <i>; load; store")
        self.put("i := ord(c)", "<i>; <c>; load; ordc; store")
        self.put("i := ord(u)", "<i>; <u>; load; ordt; store")
        self.put("i := ord(k)", "<i>; <k>; load; store")
        self.put("i := succ(s)", "<i>; <s>; load; num 1; add; store")
        self.put("i := pred(i)", "<i>; <i>; load; num 1; sub; store")
        self.put("k := succ(m)", "<k>; <m>; load; num 1; add; look 0 2; store")
        self.put("c := pred(l)", "<c>; <l>; load; ordc; num 1; sub; look 32 126; chr; store")
        self.put("b := succ(u)", "<b>; <u>; load; ordt; num 1; add; look 0 1; tru; store")
        self.put("b := eof", "<b>; place 0 0; eof; store")
        self.put("b := eoln", "<b>; place 0 0; eoln; store")
        self.put("b := eof(f)", "<b>; <f>; eof; store")
        self.put("b := eoln(h)", "<b>; <h>; eoln; store")

    def test_looks(self):
        self.put("s := i", "<s>; <i>; load; look 1 9; store")
        self.put("m := k", "<m>; <k>; load; look 0 1; store")
        self.put("l := c", "<l>; <c>; load; ordc; look 98 121; chr; store")
        self.put("u := b", "<u>; <b>; load; ordt; look 0 1; tru; store")
        self.put("d := d", "<d>; <d>; load; within 1 5; store")
        self.put("a := a", "<a>; <a>; load; within 32 126; store")
        self.put("o := o", "<o>; <o>; move")
        self.put("w := w", "<w>; <w>; move")

    def test_names_further_out_and_functions(self):
        text = (
            "program p(output);\nvar x: integer;\nfunction f(a: integer; var b: char): integer;\nvar y: integer;\n"
            "procedure g;\nvar x: char;\nbegin\nf := a; x := b; y := f(y, x); write(x)\nend;\nbegin\nf := x\nend;\nbegin\nend.")
        self.assertEqual(code_of(text, "p2"), tuple(rows(
            "line 7; line 8; place 1 2; place 1 0; load; store; line 8; place 0 0; place 1 1; load; store; line 8; place 1 3; place 1 3;"
            " load; place 0 0; call p1; store; line 8; place 2 0; place 0 0; load; num 1; writec; line 9; leave")))
        self.assertEqual(code_of(text, "p1"), tuple(rows("line 10; line 11; place 0 2; place 1 1; load; store; line 12; leave")))
        unit = compiled(Program(text))
        self.assertEqual(unit.text.split("\n")[:6], ["proc p0 -", "takes", "gives -", "names <text> n", "files output", "work 1"])
        at = unit.text.split("\n").index("proc p1 p0")
        self.assertEqual(unit.text.split("\n")[at:at + 5], ["proc p1 p0", "takes n &c", "gives n", "names n n", "work 2"])
        self.assertEqual([unit.outer(proc) for proc in unit.procs], [None, "p0", "p1"])


if __name__ == "__main__":
    unittest.main()
