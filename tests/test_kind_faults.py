"""What is wrong with kinds (section 7): each word of the table, with its place."""

import unittest

from begunended.errors import BadKind, BadName
from tests.common import Judging

# Enough of everything; statements and parts stand behind it.
KINDS = """program p(input, output, f, g);
const five = 5; sign = 'x'; word = 'hello'; yes = true;
type color = (red, green, blue); other = (dark, light);
  small = 1..9; letter = 'a'..'z'; warm = red..green; lot = set of small; colors = set of color;
  row = array [small] of integer; str = packed array [1..5] of char; str3 = packed array [1..3] of char;
  node = record x, y: integer; next: ^node; case tag: color of red: (z: char); green, blue: () end;
  tight = packed record x: integer; inner: row; case t: boolean of true: (u: char) end;
  aim = ^node; tightaim = ^tight; ints = file of integer; rows = file of row;
"""
VARS = """var i, j: integer; b: boolean; c: char; k: color; o: other; s: small; w: warm; l: letter; st: lot; cs: colors;
  a: row; a2: row; t: str; t3: str3; n: node; m: tight; q: aim; q2: aim; tq: tightaim; f: text; g: ints; h: rows;
  d: array [color, boolean] of tight; pr: record p: tight; v: row end;
"""
ROUTINES = """procedure none; begin end;
procedure one(x: integer); begin end;
procedure two(var x: integer; y: color); begin end;
procedure take(r: row; s: str; q: aim; z: lot); begin end;
procedure vary(var r: row; var c: char; var b: boolean; var u: text); begin end;
procedure calls(procedure a; procedure b(x: integer); function c(var y: color): small); begin end;
function fun: integer; begin fun := 1 end;
function sum(x: integer; y: small): small; begin sum := 1 end;
function turn(var y: color): small; begin turn := 1 end;
function point: aim; begin point := nil end;
"""


def does(statement):
    return KINDS + VARS + ROUTINES + "begin " + statement + " end."


def tells(parts):
    return KINDS + parts + " begin end."


def has(parts):
    return KINDS + "var f: text; g: ints; " + parts + " begin end."


class KindFaultsTest(Judging, unittest.TestCase):
    def bad(self, word, *texts):
        self.wrong(BadKind, word, *texts)

    def bad_statements(self, word, *statements):
        self.bad(word, *[does(statement) for statement in statements])

    def right_statements(self, *statements):
        self.right(*[does(statement) for statement in statements])

    def bad_kinds(self, word, *kinds):
        self.bad(word, *[has("x: " + kind + ";") for kind in kinds])

    def right_kinds(self, *kinds):
        self.right(*[has("x: " + kind + ";") for kind in kinds])

    def test_the_texts_themselves_are_right(self):
        self.right(does(""), has(""))

    def test_kind(self):
        self.bad_kinds("kind", "@five", "@yes", "@red", "@f", "set of @f", "array [@five] of char", "array [small] of @f",
                       "file of @red", "^@five", "^@red", "record x: @f end", "record case @red of 1: () end", "@abs",
                       "@writeln", "@maxint", "@input")
        self.bad("kind", has("procedure z(x: @five); begin end;"), has("function z: @red; begin end;"),
                 has("procedure z(procedure y(x: @f)); begin end;"), has("procedure z; var x: @z; begin end;"))
        self.bad_statements(
            "kind", "i := @integer", "@integer", "@integer(1)", "i := @integer(1)", "@small := 1", "@row[1] := 1",
            "@node.x := 1", "@aim^ := n", "with @node do", "two(@integer, red)", "one(@integer)", "i := i + @small",
            "calls(@integer, one, turn)", "read(@char)", "writeln(@char)", "b := i in @lot", "for i := @small to 2 do",
            "reset(@text)", "new(@aim)", "dispose(@aim)", "b := eof(@text)", "i := ord(@color)", "writeln(1: @small)",
            "case @color of red: end", "if @boolean then", "st := [@small]", "a[@small] := 1")
        self.right_kinds("small", "color", "array [boolean] of char", "^small", "record x: small end")

    def test_constant(self):
        self.bad("constant", KINDS.replace("const ", "const z = @integer; ", 1) + "begin end.",
                 KINDS.replace("const ", "const z = @-true; ", 1) + "begin end.")
        self.bad_kinds("constant", "@f..5", "1..@integer", "1..@f", "@small..5", "1..@-f", "@-sign..1", "@-red..blue",
                       "record case color of @small: () end", "record case color of @-red: (x: char) end", "1..@-word",
                       "1..@abs", "@+yes..2", "1..@input")
        self.bad_statements("constant", "case i of @i: end", "case i of 1, @j: end", "case i of @integer: end",
                            "case k of red: ; @color: end", "case i of @-k: end", "case i of 1: ; @fun: end",
                            "with n do case i of @x: end")
        self.right_kinds("-five..+five", "red..blue", "-maxint..-five", "'a'..sign", "false..yes")
        self.right("program p; const a = 1; b = -a; c = +b; d = -c; e = 'it'; f = e; g = true; begin end.")

    def test_stretch(self):
        self.bad_kinds("stretch", "1..@'a'", "'a'..@5", "red..@dark", "false..@1", "5..@1", "green..@red", "true..@false",
                       "'b'..@'a'", "'ab'..@'cd'", "word..@word", "1..@word", "1..@-five", "0..@-1", "five..@sign")
        self.right_kinds("1..1", "red..red", "'a'..'a'", "false..true", "-1..0", "-maxint..maxint", "sign..'z'")

    def test_ordinal(self):
        self.bad_kinds("ordinal", "array [@integer] of char", "array [@row] of char", "array [boolean, @str] of char",
                       "array [@aim] of char", "set of @row", "set of @lot", "set of @array [small] of char", "set of @aim",
                       "record case @row of 1: () end", "record case @text of 1: () end", "set of @text",
                       "record case x: @str of 1: () end", "array [@record x: char end] of char", "set of @ints")
        self.bad_statements("ordinal", "for @a := 1 to 2 do", "for @f := 1 to 2 do", "for @q := nil to nil do",
                            "case @a of 1: end", "case @q of 1: end", "case @word of 'a': end", "case @st of 1: end",
                            "st := [@word]", "st := [1, @st]", "st := [@a..1]", "st := [1..@nil]", "st := [1, @[]]",
                            "i := ord(@word)", "i := ord(@nil)", "i := succ(@a)", "k := pred(@q)", "i := ord(@[1])")
        self.right_kinds("array [char] of char", "array [boolean] of char", "array [color] of char", "set of color",
                         "array [1..2, warm, 'a'..'b'] of small", "record x: char; case integer of 1: () end")
        self.right_statements("for i := 1 to 2 do", "for c := 'a' to 'b' do", "for k := red to k do", "for w := red to blue do",
                              "for b := false to true do", "case c of 'a': end", "case b of true: end", "i := ord(k)",
                              "case s of 100: end", "k := succ(w)", "c := pred(l)", "b := succ(b)", "i := pred(s)")

    def test_set(self):
        self.bad_kinds("set", "set of @integer", "set of @-1..1", "set of @0..128", "set of @128..200", "set of @1..maxint")
        self.bad("set", tells("big = 0..200; z = set of @big;"))
        self.right_kinds("set of 0..127", "set of char", "set of boolean", "set of color", "set of warm", "set of 127..127")

    def test_file(self):
        self.bad_kinds("file", "array [small] of @text", "array [small] of @ints", "array [small] of @file of char",
                       "record x: @text end", "record x: char; y, z: @ints end", "file of @text", "file of @file of char",
                       "^@text", "^@ints", "record case boolean of true: (x: @text) end")
        self.bad("file", has("procedure z(x: @text); begin end;"), has("procedure z(x: char; y: @ints); begin end;"),
                 has("function z: @text; begin end;"), has("procedure z(procedure y(x: @text)); begin end;"),
                 has("procedure z(function y: @ints); begin end;"), tells("z = ^@text;"), tells("z = ^@y; y = file of char;"))
        self.bad_statements("file", "f := @f", "g := @g", "f := @g", "i := @f", "one(@f)", "f := @input", "take(@f, t, q, st)")
        self.right_kinds("text", "file of char", "file of row", "file of record x: row end")
        self.right(has("procedure z(var x: text; var y: ints); begin end;"))
        self.right_statements("vary(a, c, b, f)", "vary(a, c, b, input)")

    def test_arm_and_label(self):
        head = "record z: char; case "
        self.bad_kinds("arm", head + "boolean of @1: () end", head + "color of red: (); @dark: () end",
                       head + "small of @'a': () end", head + "color of red, @red: () end", head + "x: char of 'a': (); @'a': () end",
                       head + "integer of 1: (); 2, @+1: () end", head + "integer of five: (); 4, @5: () end",
                       head + "color of @word: () end", head + "warm of @1: () end", head + "char of @word: () end")
        self.right_kinds(head + "small of 100: () end", head + "warm of blue: () end", head + "letter of 'A': () end",
                         head + "integer of 1: (case integer of 1: (x: char); 2: ()); 2: () end")
        self.bad_statements("label", "case i of @'a': end", "case k of @dark: end", "case i of 1, @1: end",
                            "case i of 1: ; 2: ; @1: end", "case c of @word: end", "case b of @0: end", "case w of @1: end",
                            "case i of five: ; @5: end", "case i of -1: ; @-1: end")
        self.right_statements("case s of 100, -1: end", "case w of blue: end", "case i of 1: ; -1: end",
                              "case i of 1: case i of 1: end end")

    def test_size(self):
        self.bad_kinds("size", "@record end", "@array [1..2001] of char", "@packed array [0..2000] of char",
                       "@array [1..1001] of record x, y: char end", "@array [1..50] of array [1..41] of char",
                       "@array [1..50, 1..41] of char", "array [1..2] of @array [1..2001] of char",
                       "@array [1..2, 1..2001] of char", "@array [-maxint..maxint] of boolean",
                       "@record a, b, c, d, e, f, g, h, i, j, k, l, m: char end",
                       "@record a, b, c, d, e, f, g, h, i, j, k, l: char; case boolean of true: () end",
                       "@record a, b, c, d, e, f, g, h, i, j, k: char; case z: boolean of true: () end",
                       "@record x: array [1..1999] of char; y, z: char end", "@record case boolean of true: () end",
                       "@record x: char; case boolean of true: (a, b, c, d, e, f, g, h, i, j, k, l, m: char) end",
                       "@record x: char; case integer of 1: (); 2: (); 3: (); 4: (); 5: (); 6: (); 7: (); 8: () end",
                       "@record x: char; case boolean of true: (y: array [1..2000] of char) end",
                       "@record x: char; case boolean of true: (case boolean of true: ()) end",
                       "file of @array [1..2001] of char", "record x: @record end end")
        self.bad("size", tells("z = @record end;"), tells("z = ^y; y = @record end;"),
                 has("procedure z; var x: @record end; begin end;"))
        self.right_kinds("array [1..2000] of char", "array [1..1000] of record x, y: char end",
                         "array [1..50] of array [1..40] of char", "array [1..50, 1..40] of char",
                         "record a, b, c, d, e, f, g, h, i, j, k, l: char end",
                         "record a, b, c, d, e, f, g, h, i, j, k: char; case boolean of true: () end",
                         "record a, b, c, d, e, f, g, h, i, j: char; case k: boolean of true: () end",
                         "record x: array [1..1999] of char; y: char end", "record case x: boolean of true: () end",
                         "record case boolean of true: (a, b, c, d, e, f, g, h, i, j, k, l: char) end",
                         "record x: char; case integer of 1: (); 2: (); 3: (); 4: (); 5: (); 6: (); 7: () end",
                         "record x: char; case boolean of true: (y: array [1..1999] of char) end",
                         "record x: char; case boolean of true: (case y: boolean of true: ()) end",
                         "file of array [1..2000] of char", "array [1..2000] of ^row")

    def test_array_record_pointer(self):
        self.bad_statements("array", "i@[1] := 1", "n@[1] := 1", "a[1]@[2] := 1", "q@[1, 2] := 1",
                            "i := s@[1]", "f@[1] := 'a'", "q^@[1] := 1",
                            "i@[x] := 1", "st@[1, j] := 1", "i := 1; a[1]@[2, 3] := 1")
        self.bad_statements("record", "i@.x := 1", "a@.x := 1", "q@.x := 1", "f@.x := 1", "with @a do", "with @q do",
                            "with n, @i do", "with @a[1] do", "with @q^.next do", "with @f^ do", "d@.x := 1", "i := a[1]@.x",
                            "i@.unknown := 1")
        self.bad_statements("pointer", "i@^ := 1", "a@^ := 1", "n@^ := n", "q^@^ := n", "with n do x@^ := 1", "i := a[1]@^",
                            "f^@^ := 'a'", "n.x@^ := 1")
        self.right_statements("a[1] := 1", "d[red, true].x := 1", "d[red][true].inner[2] := 1", "n.x := 1", "q^.x := 1",
                              "q^.next^.next^.y := 1", "f^ := 'a'", "h^[2] := 3", "with n, q^ do", "with d[red, b] do")

    def test_the_sign_of_a_second_index_is_the_bracket(self):
        self.bad_statements("array", "a@[1, 2] := 1", "d@[red, true, 1] := m", "i := a@[1, 2, 3]")

    def test_field(self):
        self.bad_statements("field", "n.@u := 1", "n.@red := 1", "q^.@i := 1", "i := n.@inner", "with n.@m do", "n.@node := 1",
                            "with n do n.@z2 := 1")
        self.right_statements("n.z := 'a'", "n.tag := red", "m.u := 'b'", "q^.tag := k")

    def test_place(self):
        self.bad_statements(
            "place", "@five := 1", "@red := k", "@none := 1", "@fun := 1", "@abs := 1", "@true := b", "@maxint := 1",
            "@word[1] := 'a'", "@fun^ := n", "@point^.x := 1", "with @fun do", "with @red do", "@none.x := 1", "@five[1] := 1",
            "two(@1, red)", "two(@i + 1, red)", "two(@five, red)", "two(@fun, red)", "two(@none, red)", "two(@s, red)",
            "two(@c, red)", "vary(@t, c, b, f)", "vary(a, @l, b, f)", "vary(a, c, b, @g)", "two(@nil, red)",
            "two(@sum(1, 2), red)", "read(@1)", "read(@five)", "read(@fun)", "read(i, @j + 1)", "read(f, @red)", "readln(@none)",
            "reset(@1)", "reset(@none)", "new(@nil)", "new(@point)", "b := eof(@1)", "b := eoln(@fun)", "rewrite(@abs(1))",
            "get(@word)", "i := ord(@fun^)", "@fun[1] := 1", "i := turn(@w)",
            "i := turn(@red)", "read(g, @5)", "vary(@q, c, b, f)", "two(@point^.x, red)")
        self.bad("place", has("procedure y(procedure z); begin @z := 1 end;"),
                 has("function y: integer; begin end; procedure z; begin @y := 1 end;"),
                 has("procedure y(function z: integer); begin @z := 1 end;"),
                 has("procedure y; begin @y := 1 end;"))
        self.right(has("function y: integer; procedure z; begin y := 1 end; begin end;"),
                   has("function y: integer; forward; function y; begin y := 1 end;"))
        self.right_statements("two(i, red)", "two((i), red)", "vary(a, c, b, f)", "two(n.next^.next^.y, red)", "two(n.x, red)", "two(a[1], red)", "with n do two(x, red)", "i := turn(k)")

    def test_packed(self):
        self.bad_statements(
            "packed", "two(@m.x, red)", "vary(a, @t[1], b, f)", "vary(@m.inner, c, b, f)", "two(@m.inner[1], red)",
            "two(@tq^.x, red)", "two(@d[red, true].x, red)", "with m do two(@x, red)", "with m do two(@inner[1], red)",
            "with d[red, true] do two(@x, red)", "i := turn(@n.tag)", "with n do i := turn(@tag)", "vary(a, c, @m.t, f)",
            "two(@pr.p.x, red)", "with pr do two(@p.x, red)",
            "with pr.p do vary(@inner, c, b, f)")
        self.bad("packed", *[
            "program p(input); var r: record case t: integer of 1: (); 2: (u: char) end; begin " + statement + " end."
            for statement in ("read(@r.t)", "readln(@r.t)", "with r do read(@t)")])
        self.right_statements("two(n.x, red)", "vary(pr.v, c, b, f)", "two(q^.y, red)", "read(m.x)", "read(m.inner[1])",
                              "read(t[1])", "with m do read(x)", "two(pr.v[2], red)", "n.tag := red", "new(n.next)")

    def test_place_comes_ahead_of_packed(self):
        self.bad_statements("place", "two(@m.u, red)", "vary(@t, c, b, f)", "two(@t[1], red)", "two(@n.tag, red)")

    def test_call(self):
        self.bad_statements(
            "call", "i := @none", "i := @none(1)", "one(@none)", "writeln(@none)", "i := 1 + @one(2)", "@fun", "@sum(1, 2)",
            "@i", "@i(1)", "@five", "@red(1)", "@abs(1)", "@eof", "i := @i(1)", "i := @five(1)", "k := @red(1)", "i := @writeln",
            "i := @read(i)", "@n", "with n do @x", "i := a[@none]", "if @none then", "for i := @none to 2 do", "case @none of 1: end",
            "calls(@one, one, turn)", "calls(none, @none, turn)", "calls(none, one, @fun)", "calls(none, one, @sum)",
            "calls(@1, one, turn)", "calls(@i, one, turn)", "calls(@five, one, turn)", "calls(none, one, @turn(k))",
            "calls(@fun, one, turn)", "calls(none, @two, turn)", "calls(@writeln, one, turn)", "calls(none, one, @abs)",
            "calls(@n.x, one, turn)", "st := [@none]", "dispose(@none)", "i := ord(@none)", "writeln(1: @none)", "i := @true(1)")
        head = "procedure run(procedure a(x, y: integer; function b(z: char): char)); begin end; "
        for parts in (
                "procedure y(x, y: integer; function b(z: char): boolean); begin end;",
                "procedure y(x, y: integer; function b(var z: char): char); begin end;",
                "procedure y(x: integer; var y: integer; function b(z: char): char); begin end;",
                "procedure y(x, y: small; function b(z: char): char); begin end;",
                "procedure y(x, y: integer; procedure b(z: char)); begin end;",
                "procedure y(x, y: integer); begin end;",
                "procedure y(x, y, z: integer; function b(z: char): char); begin end;",
                "function y(x, y: integer; function b(z: char): char): char; begin end;"):
            self.bad("call", KINDS + "var f: text; g: ints; " + head + parts + " begin run(@y) end.")
        for parts in (
                "procedure y(x, y: integer; function b(z: char): char); begin end;",
                "procedure y(x: integer; z: integer; function c(x: char): char); begin end;"):
            self.right(KINDS + "var f: text; g: ints; " + head + parts + " begin run(y) end.")
        self.right(has(
            "procedure y(procedure a; function b: char); var c: char; procedure z(procedure a); begin a end;"
            " begin a; c := b; z(a); y(a, b) end;"))
        self.right_statements("none", "one(1)", "i := fun + sum(1, 2)", "calls(none, one, turn)", "i := sum(fun, fun)")

    def test_count(self):
        self.bad_statements(
            "count", "@one", "none(1@)", "one(1, 2@)", "two(i@)", "two(i, red, 1@)", "i := @sum", "i := sum(1@)",
            "i := sum(1, 2, 3@)", "i := fun(1@)", "one(1@: 2)", "none(1@: 2)", "two(i@: 1, red)", "one(1, 2@: 3)",
            "calls(none, one@)", "i := @abs", "i := abs(1, 2@)", "b := eof(f, 1@)", "c := @chr", "k := succ(k, k@)",
            "@reset", "reset(f, g@)", "reset(f@: 1)", "@new", "new(q, q@)", "@dispose", "dispose(q, q@)", "put(f, 1@)", "@read",
            "@write", "read(f@)", "write(f@)", "read(g@)", "write(g@)", "read(i@: 1)", "readln(i, j@: 1)", "readln(f@: 1)",
            "write(f@: 1, i)", "write(g, i@: 1)", "write(g@: 1, i)", "writeln(f@: 2)", "read(f@: 1, i)", "new(q@: 1)",
            "two(i, @turn)", "writeln(@sum)", "none(five@)", "none(((1))@)")
        self.right_statements("readln", "writeln", "readln(f)", "writeln(f)", "read(f, i)", "write(f, i)", "read(g, i)",
                              "write(g, i)", "write(i: 1)", "write(f, i: 1, j: 2)", "writeln(i: j)")

    def test_faults_of_arguments_come_ahead_of_their_count(self):
        self.bad_statements("alike", "one(@true, 2)", "none(1 + @true)", "one(@b: 2)", "i := abs(@c, 2)", "new(@i, 2)",
                            "none(1, 2 + @b)")
        self.bad_statements("place", "two(@1)", "reset(@1, 2)")
        self.wrong(BadName, "unknown", does("none(@v)"), does("one(1, @v)"), does("one(1, @v: 2)"))
        self.bad_statements("count", "one(1@: v)", "reset(f@: v)", "write(g, 1@: v)")
        self.bad_statements("call", "none(@one)", "@fun(v)", "i := @none(v)")

    def test_condition(self):
        self.bad_statements("condition", "if @1 then", "if @i then v", "while @c do", "repeat until @k", "if @nil then", "if @f then",
                            "if (@1) then", "if ((@i)) then", "while @i + 1 do", "repeat until @a",
                            "if (@i + 1) then", "if @[] then", "if @(i) + 1 then")
        self.right_statements("if b then", "while yes do", "repeat until i = 1", "if (b) then", "if not b and (i < 2) then",
                              "if i in [] then", "if eof then", "if odd(i) then")

    def test_alike_of_operators(self):
        self.bad_statements(
            "alike", "i := 1 + @true", "i := true + @1", "i := 1 - @c", "i := c * @c", "i := i div @b", "i := k mod @2", "i := 1 + @nil",
            "b := b and @1", "b := 1 or @b", "b := not @i", "i := -@b", "i := +@c", "i := -(@k)",
            "st := st + @cs", "st := st * @1", "st := 1 - @st", "b := st and @st", "b := 1 = @c", "b := k = @o", "b := a = @a2",
            "b := n = @n", "b := f = @f", "b := q = @tq", "b := q < @q2", "b := nil < @nil", "b := q = @1", "b := 1 = @nil",
            "b := st < @st", "b := st > @[]", "b := st = @cs", "b := st <= @1", "b := t = @t3", "b := t = @'four'", "b := t < @c",
            "b := c = @t", "b := k < @true", "b := i in @i", "b := st in @st", "b := nil in @st", "b := c in @st", "b := 1 in @cs",
            "b := a in @st", "i := 1 + (@true)", "b := (1) = (@c)", "b := 1 = @true", "b := (b) + (@b)",
            "b := [1] = @['a']", "b := [1] <= @[red]", "b := [] = @1", "b := word = @sign", "b := i = @st", "i := 1 + @word")
        self.right_statements(
            "i := s + i * s div 2 mod 3", "b := s = i", "b := w < blue", "b := l = c", "st := st + [1, 2..s] * st - []",
            "st := [] + [] * []", "b := st = [1]", "b := [] = []", "b := [] <= st", "b := st >= [] + []", "b := cs <> [red..w]",
            "b := q = q2", "b := nil <> q", "b := q <> nil", "b := nil = nil", "b := t < word", "b := t3 >= 'abc'", "b := 'ab' = 'cd'",
            "b := s in st", "b := i in st + [3]", "b := k in cs", "b := l in ['a']", "b := c in []", "b := true > false",
            "b := not (b or b) and b", "i := -s + (-i)", "b := w in cs", "b := 'abc' = t3", "b := yes = b")

    def test_alike_of_puts_and_arguments(self):
        self.bad_statements(
            "alike", "i := @b", "b := @1", "c := @word", "t := @t3", "t := @'four'", "t := @sign", "k := @o", "k := @dark", "a := @n",
            "st := @cs", "cs := @[1]", "q := @tq", "q := @i", "i := @nil", "st := @nil", "i := @[]", "f := @i", "f := @nil",
            "a[@true] := 1", "a[@c] := 1", "a[@word] := 1", "d[red, @1] := m", "d[@b, b] := m", "d[@dark][b] := m", "a[@nil] := 1",
            "one(@b)", "one(@nil)", "two(i, @dark)", "take(@n, t, q, st)", "take(a, @t3, q, st)", "take(a, t, @tq, st)",
            "take(a, t, q, @cs)", "i := sum(@c, 1)", "for i := @b to 2 do", "for i := 1 to @c do", "for k := @dark to red do",
            "for c := 'a' downto @nil do", "i := (@b)", "one((@b))", "a[(@b)] := 1", "f^ := @i", "g^ := @c", "n.tag := @dark",
            "st := [1, @c]", "st := [1..@c]", "st := [red, @1]", "st := ['a'..'b', @true]", "st := [1, 2, (@c)]")
        self.bad("alike", has("function z: integer; begin z := @true end;"), has("function z: aim; begin z := @1 end;"))
        self.right_statements(
            "i := s", "s := i", "w := blue", "k := w", "l := c", "c := 'a'", "t := word", "t := 'abcde'", "a := a2", "n := q^", "q := nil",
            "q := q2", "st := []", "st := [100]", "cs := [w]", "st := st + [i]", "a[i] := 1", "a[s] := s", "d[w, true] := m", "one(s)",
            "take(a, 'abcde', nil, [])", "take(a, t, point, [1])", "for s := i to i do", "for w := blue to red do", "f^ := l", "g^ := s",
            "h^ := a", "q := point", "d[red] := d[blue]", "st := [s, i, 1..s]", "n.tag := w", "i := sum(s, i)")
        self.right(
            "program p; type s = packed array [1..3] of char; t = packed array [1..3] of char; var x: s; y: t; begin x := y end.",
            "program p; type s = set of 1..3; t = packed array [1..2] of char; var x: s; y: set of 0..9; begin x := y end.")
        for kinds in (
                "array [1..3] of char", "packed array [0..2] of char", "packed array [1..3] of 'a'..'z'",
                "packed array ['a'..'c'] of char", "packed array [boolean] of char", "packed array [2..4] of char"):
            self.bad("alike", "program p; var x: " + kinds + "; begin x := @'abc' end.",
                     "program p; var x: " + kinds + "; b: boolean; begin b := x = @'abc' end.")
        self.right("program p; type c = char; i = 1..3; var x: packed array [i] of c; begin x := 'abc' end.")
        for length in (2, 255):
            self.right("program p; var x: packed array [1.." + str(length) + "] of char; begin x := '" + "a" * length + "' end.")
        self.bad("alike", "program p; var x: packed array [1..1] of char; begin x := @'a' end.",
                 "program p; var x, y: packed array [1..256] of char; b: boolean; begin b := x = @y end.")

    def test_alike_of_required_routines(self):
        self.bad_statements(
            "alike", "i := abs(@c)", "i := sqr(@b)", "b := odd(@k)", "c := chr(@c)", "i := abs(@nil)", "b := eof(@i)", "b := eoln(@g)",
            "b := eoln(@c)", "reset(@i)", "rewrite(@c)", "get(@a)", "put(@n)", "new(@i)", "new(@f)", "dispose(@nil)", "dispose(@i)",
            "dispose(@f)", "read(@b)", "read(@k)", "read(@t)", "read(i, @q)", "read(f, @b)", "read(g, @c)", "read(h, @i)", "readln(@g)",
            "readln(@g, i)", "writeln(@g)", "writeln(@g, i)", "write(@k)", "write(@q)", "write(@a)", "write(@st)", "write(@nil)",
            "write(i, @f)", "write(f, @f)", "write(f, @k)", "write(1: @b)", "write(1: @c)", "write(i, j: @word)", "write(g, @c)",
            "write(g, @g)", "write(h, @i)", "write(g, @nil)", "read(f, @f)", "write(@[1])", "read(i, @f)",
            "write(@k: 1)", "write(1, @nil: v)", "write((@k))")
        self.right_statements(
            "i := abs(s) + sqr(i)", "b := odd(s)", "c := chr(i)", "b := eof(g) or eof(f) or eoln(f)", "reset(g)", "rewrite(f)", "get(h)",
            "put(output)", "new(q); dispose(q); dispose(point)", "read(i, s, c, l)", "read(f, s, l)", "readln(f, i)", "read(g, i, s)",
            "read(h, a)", "write(i, c, b, word, t, 'x', 'xyz', s, l)", "write(i: s, c: 1, b: i, word: 2)", "write(f, t: 3)",
            "write(g, i, s, 1)", "write(h, a)", "writeln(f, 1)", "writeln(output, 1)", "readln(input, i)", "read(a[1], n.x, n.z, q^.x)")

    def test_result(self):
        self.bad("result", *[has("function z: @" + kind + "; begin end;") for kind in (
            "row", "str", "node", "lot", "colors", "tight")])
        self.bad("result", has("procedure y(function z: @row); begin end;"), has("procedure y(procedure x(function z: @lot)); begin end;"))
        self.right(*[has("function z: " + kind + "; begin end;") for kind in (
            "integer", "small", "color", "char", "boolean", "letter", "aim", "tightaim")])


class PartsTest(Judging, unittest.TestCase):
    """What is wrong with a part is known ahead of what is wrong with the whole."""

    def test_parts_ahead_of_wholes(self):
        self.wrong(BadKind, "alike", does("if 1 + @true then"), does("i := (1 = @c) + 1"), does("a[1 + @b] := true"))
        self.wrong(BadKind, "array", does("one(i@[true])"), does("i := i@[1 + true]"))
        self.wrong(BadKind, "file", does("one(@f)"), has("x: array [small] of @text;"))
        self.wrong(BadKind, "ordinal", has("x: array [@integer] of text;"), has("x: array [@row] of record end;"))
        self.wrong(BadKind, "size", has("x: array [1..2000] of @record end;"), has("x: set of @record end;"))
        self.wrong(BadKind, "set", has("x: array [small] of set of @integer;"), has("x: file of set of @1..200;"))
        self.wrong(BadKind, "kind", has("x: set of @red;"), has("x: 1..2; y: @five; z: 5..1;"))
        self.wrong(BadKind, "constant", has("x: @f..five;"), has("x: 5..@f;"))
        self.wrong(BadKind, "call", does("b := i + @none"), does("i := not @none"))
        self.wrong(BadKind, "count", does("if @sum then"), does("b := not sum(1@)"))
        self.wrong(BadKind, "condition", does("if @i then i := true"), does("while @i do v"))
        self.wrong(BadKind, "ordinal", does("case @a of v: end"), does("st := [@a, v]"))
        self.wrong(BadKind, "record", does("with @i, v do"), does("with @a do v"))
        self.wrong(BadName, "unknown", does("if @v + 1 then"), does("i := true + @v"), does("one(true + @v)"))

    def test_brackets_around_a_whole_expression(self):
        self.wrong(BadKind, "alike", does("i := ((@b))"), does("i := 1 + ((@b))"), does("i := @b or b"), does("i := (@b or b)"),
                   does("i := @(b) or b"), does("i := -(@b)"), does("i := 1 + (@b or b)"), does("i := 1 + (@(b) or b)"))
        self.wrong(BadKind, "place", does("two((@1), red)"), does("read((@1))"))
        self.wrong(BadKind, "file", does("one((@f))"))
        self.wrong(BadKind, "call", does("calls((@i), one, turn)"))
        self.right(does("calls((none), (one), (turn))"), does("read((i)); vary((a), (c), (b), (f))"))


if __name__ == "__main__":
    unittest.main()
