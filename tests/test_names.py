"""What is wrong with names and labels (section 6): each word of the table, with its place."""

import unittest

from begunended.errors import BadKind, BadName, BadSyntax, BadToken, Wide
from begunended.program import Program
from tests.common import Judging


def program(parts, statements="", head=""):
    return "program p" + head + ";\n" + parts + "\nbegin " + statements + " end."


class NamesTest(Judging, unittest.TestCase):
    def bad(self, word, *texts):
        self.wrong(BadName, word, *texts)

    def test_unknown(self):
        self.bad(
            "unknown",
            program("", "@x"), program("", "@x := 1"), program("", "writeln(@x)", "(output)"), program("var x: @y;"),
            program("const a = @b;"), program("const a = -@b;"), program("const a = @b; b = 1;"),
            program("const a = @a;"), program("type t = @t;"), program("type t = array [1..@n] of char;"),
            program("type t = record x: @t end;"), program("var x: array [1..2] of @x;"),
            program("type t = record case @k of 1: () end;"), program("procedure q(x: @y); begin end;"),
            program("function f: @y; begin end;"), program("procedure q(procedure r(x: @y)); begin end;"),
            program("var x: integer;", "x := x + @y"), program("var i: integer;", "for @j := 1 to 2 do"),
            program("var i: integer;", "case i of @j: end"), program("", "with @x do"), program("", "@p"),
            program("procedure q(procedure r(x: integer)); begin @x := 1 end;"),
            program("var r: record x: integer end;", "@x := 1"),
            program("procedure q; var x: integer; begin end;", "@x := 1"),
            program("procedure q; begin @r end; procedure r; begin end;"),
            program("", "", "(@f)"), program("procedure q(f: integer); begin end;", "", "(@f)"))
        self.right(
            program("const a = 1; b = a;"), program("var x: integer;", "x := x + 1"),
            program("procedure r; begin end; procedure q; begin r end;"),
            program("procedure q; begin q end;"), program("procedure q(x: integer); begin x := 1 end;"),
            program("var r: record x: integer end;", "with r do x := 1"))

    def test_unknown_aims(self):
        self.bad(
            "unknown",
            program("type t = ^@u;"), program("type t = ^@u; var x: v;"), program("type t = ^@u; s = ^v;"),
            program("type s = ^t; t = ^@u;"), program("type t = record x: ^@u end;"),
            program("type t = ^u; v = @w;"), program("var x: ^@u; u: integer;"),
            program("type t = ^@u; procedure q; type u = integer; begin end;"))
        self.bad("twice", program("type t = ^u; @t = integer;"))
        self.wrong(BadKind, "kind", program("const c = 1; type t = ^@c; s = ^v;"))
        self.wrong(BadKind, "file", program("type t = ^@text; s = ^v;"))
        self.right(
            program("type t = ^u; u = integer;"), program("type t = ^t;"), program("type t = record x: ^t end;"),
            program("type t = integer; var x: ^t;"))

    def test_twice(self):
        self.bad(
            "twice",
            program("const a = 1; @a = 1;"), program("const a = 1; type @a = integer;"),
            program("const a = 1; var @a: integer;"), program("var a, @a: integer;"),
            program("var a, b: integer; @b: char;"), program("var a: integer; procedure @a; begin end;"),
            program("procedure q; begin end; procedure @q; begin end;"),
            program("type t = (a, b, @a);"), program("type @t = (t, u);"), program("var @x: (x, y);"),
            program("type t = (a, b); var @b: integer;"), program("type t = (a, b); s = (c, @b);"),
            program("procedure q(x, @x: integer); begin end;"), program("procedure q(x: integer; var @x: char); begin end;"),
            program("procedure q(x: integer; procedure @x); begin end;"),
            program("procedure q(x: integer); var @x: char; begin end;"),
            program("procedure q(x: integer); const @x = 1; begin end;"),
            program("procedure q(x: integer); procedure @x; begin end; begin end;"),
            program("var r: record x, @x: integer end;"), program("var r: record x: integer; @x: char end;"),
            program("var r: record x: integer; case @x: integer of 1: () end;"),
            program("var r: record x: integer; case integer of 1: (@x: char) end;"),
            program("var r: record case t: integer of 1: (@t: char) end;"),
            program("var r: record case integer of 1: (x: char); 2: (@x: char) end;"),
            program("var r: record case integer of 1: (x: char; case integer of 2: (@x: char)) end;"),
            program("label 1, @1;"), program("label 1, 2, @01;"),
            program("", "", "(output, @output)"), program("var f: text;", "", "(f, @f)"),
            program("var @input: text;", "", "(input)"), program("const @output = 1;", "", "(output)"),
            program("type t = (a, @input);", "", "(output, input)"),
            program("procedure @input; begin end;", "", "(input)"))
        self.right(
            program("var x: integer; procedure q; var x: char; begin end;"),
            program("var x: record x: integer end; y: record x: char end;"),
            program("var r: record x: record x: integer end end;"),
            program("procedure q(q: integer); begin end;"), program("function f: integer; var f: integer; begin end;"),
            program("procedure q(procedure r(x: integer); x: char); begin end;"),
            program("procedure q(procedure r(x, x: integer)); begin end;"),
            program("var input, output: integer;"), program("procedure q; var input: integer; begin end;", "", "(input)"),
            program("var p: integer;"), program("var r: record input: integer end;", "", "(input)"),
            program("procedure q(output: integer); begin end;", "", "(output)"),
            program("label 1; procedure q; label 1; begin 1: end;", "1:"))

    def test_twice_is_known_behind_the_kind(self):
        self.bad("unknown", program("var a, a: @b;"), program("const a = 1; a = @b;"), program("type a = char; a = @b;"))
        self.wrong(BadKind, "size", program("var a, a: @record end;"))
        self.wrong(BadKind, "stretch", program("type a = char; a = 2..@1;"))
        self.bad("twice", program("var a, @a: char; b: c;"), program("type t = (a, @a, b); u = v;"))
        self.bad("twice", program("procedure q(a, @a: b); begin end;"), program("var r: record a, @a: b end;"))

    def test_ahead(self):
        self.bad(
            "ahead",
            program("const a = maxint; @maxint = 1;"), program("const @maxint = maxint;"),
            program("const @maxint = -maxint;"), program("type t = integer; @integer = char;"),
            program("type @integer = array [1..2] of integer;"), program("var @char: char;"),
            program("var a, @char, b: char;"), program("var x: char; @char: integer;"),
            program("const c = 1; procedure q; const d = c; @c = 2; begin end;"),
            program("const c = 1; procedure q; type t = 0..c; var @c: integer; begin end;"),
            program("const c = 1; procedure q; const @c = c; begin end;"),
            program("type t = char; procedure q; type s = record x: t end; var @t: s; begin end;"),
            program("type t = char; procedure q; var x: t; procedure @t; begin end; begin end;"),
            program("type t = char; procedure q; var x: array [boolean] of t; y: (r, @t); begin end;"),
            program("type k = (r, s); procedure q; var x: record y: k; case k of r: () end; procedure @r; begin end; begin end;"),
            program("procedure q; begin writeln end; procedure @writeln; begin end;", "", "(output)"),
            program("procedure q; begin end; procedure r; procedure s; begin q end; procedure @q; begin end; begin end;"),
            program("procedure q; procedure r; procedure s; begin q end; begin end; procedure @q; begin end; begin end;"),
            program("function f: integer; procedure q; var x: integer; begin x := f end; procedure @f; begin end;"
                    " begin f := 1 end;"))
        self.right(
            program("procedure q(x: integer); begin end; procedure integer; begin end;"),
            program("type t = char; procedure q(x: t); type t = integer; begin end;"),
            program("type t = char; procedure q(t: t); begin end;"),
            program("type t = char; procedure q; procedure r(x: t); begin end; procedure t; begin end; begin end;"),
            program("type t = char; procedure q; function f: t; begin f := 'a' end; procedure t; begin end; begin end;"),
            program("type t = char; procedure q; type p = ^t; t = integer; begin end;"),
            program("type t = char; procedure q; type p = ^t; var t: integer; begin end;"),
            program("type t = char; procedure q; var p: ^t; t: integer; begin end;"),
            program("var v: record x: integer end; procedure q; procedure r; begin v.x := 1; with v do x := 1 end;"
                    " procedure x; begin end; begin end;"),
            program("const a = 1; procedure q; procedure r; const b = a; begin end; begin end; procedure s;"
                    " const a = 2; begin end;"),
            program("const c = 1; procedure q; const c = 2; d = c; begin end;"),
            program("var integer: char; x: char;"))

    def test_file(self):
        self.bad(
            "file",
            program("var f: integer;", "", "(@f)"), program("const f = 1;", "", "(@f)"),
            program("", "", "(@integer)"), program("", "", "(@read)"), program("procedure f; begin end;", "", "(@f)"),
            program("type f = text;", "", "(@f)"), program("var f: text; g: char;", "", "(f, @g, h)"),
            program("", "reset(@input)"), program("var c: char;", "c := @input^"), program("", "writeln(@output)"),
            program("", "writeln(@output)", "(input)"), program("procedure q; begin @writeln end;"),
            program("", "@writeln"), program("", "@readln"), program("", "@write(1)"), program("", "@writeln('a': 2)"),
            program("var c: char;", "@read(c)"), program("var c: char;", "@readln(c)", "(output)"),
            program("var b: boolean;", "b := @eof"), program("var b: boolean;", "b := @eoln", "(output)"),
            program("var b: boolean;", "if true and @eof then"), program("", "@read"), program("", "@write"),
            program("var f: integer;", "@write(f)"), program("const c = @input;"))
        self.right(
            program("var f: text;", "", "(f)"), program("var f: file of char; g: text;", "writeln(g)", "(f)"),
            program("type t = text; var f: t;", "", "(f)"), program("", "reset(input)", "(input)"),
            program("var c: char; f: text;", "read(f, c); write(f, c); writeln(f); readln(f); if eof(f) or eoln(f) then"),
            program("", "writeln", "(output)"), program("var c: char;", "read(c); readln; if eof or eoln then", "(input)"),
            program("var input: integer;", "input := 1"), program("var output: text;", "writeln(output)"))
        self.bad("unknown", program("var g: text;", "", "(g, @f, h)"), program("var h: char;", "", "(@f, h)"))

    def test_file_is_known_behind_the_first_argument(self):
        self.bad("unknown", program("", "write(@x)"), program("", "read(@x)"), program("", "write(1: @x)"))
        self.bad("file", program("", "@write(1, x)"), program("var c: char;", "@read(c, x)"))
        self.wrong(BadKind, "alike", program("", "write(1 + @true)"), program("", "write(@nil: x)"))
        self.bad("file", program("", "@write(nil)"), program("", "@write(1: true)"), program("", "@read(5)"))
        self.bad("file", program("const c = 1;", "@read(c)"), program("var b: boolean;", "@read(b)"))

    def test_forward(self):
        self.bad(
            "forward",
            program("procedure q; forward; procedure @q; forward; procedure q; begin end;"),
            program("procedure q; forward; function @q; begin end;"),
            program("function q: char; forward; procedure @q; begin end;"),
            program("procedure q; forward; procedure @q(x: integer); begin end;"),
            program("procedure q(x: integer); forward; procedure @q(x: integer); begin end;"),
            program("function q: char; forward; function @q: char; begin end;"),
            program("procedure q; forward; procedure @q(x: unknown); begin end;"),
            program("function @f; begin end;"), program("function @f; forward;"),
            program("function @f(x: integer); begin end;"))
        self.bad(
            "forward",
            "program p; procedure q; forward; @begin end.",
            "program p; procedure q; forward; procedure r; begin end; @begin end.",
            "program p; procedure r; procedure q; forward; @begin end; procedure q; begin end; begin end.",
            "program p; procedure q; forward; procedure r; procedure q; begin end; begin end; @begin end.")
        self.bad("unknown", program("function f(x: @y); begin end;"))
        self.right(
            program("procedure q; forward; procedure q; begin end;"),
            program("procedure q(x: integer); forward; procedure r; begin q(1) end; procedure q; begin x := 1 end;"),
            program("function f: char; forward; function f; begin f := 'a' end;"),
            program("function f(x: char): char; forward; procedure r; begin end; function f; begin f := x end;"),
            program("procedure q; forward; procedure r; procedure q; begin end; begin end; procedure q; begin end;"))
        self.bad("twice", program("procedure q; forward; procedure q; begin end; procedure @q; begin end;"))
        self.bad("twice", program("procedure q(x: integer); forward; procedure q; var @x: char; begin end;"))

    def test_forward_comes_behind_the_head(self):
        self.bad("unknown", program("procedure q; forward;", "", "(@f)"))
        self.bad("file", program("procedure q; forward;", "", "(@q)"))

    def test_label(self):
        self.bad(
            "label",
            program("label @10000;"), program("label 1, @99999;"), program("", "@1:"), program("label 1;", "1: ; @2:"),
            program("label 1;", "1: ; @1:"), program("label 1;", "1: if true then @1:"),
            program("label 1; procedure q; begin @1: end;", "1:"), program("", "goto @1"),
            program("procedure q; label 1; begin 1: end;", "goto @1"), program("", "@10000:"), program("", "goto @10000"),
            program("label 1;", "1: goto @2"))
        self.bad(
            "label",
            "program p; label 1; begin @end.", "program p; label 1, 2; begin 2: begin end @end.",
            "program p; label 1; begin goto 1 @end.", "program p; label 1; procedure q; begin goto 1 end; begin @end.",
            "program p; procedure q; label 1; begin @end; begin end.")
        self.right(
            program("label 9999, 0;", "0: ; 9999:"), program("label 1;", "1: goto 1"),
            program("label 1; procedure q; begin goto 1 end;", "1:"), program("label 01;", "1: goto 001"),
            program("label 1; procedure q; label 1; begin 1: goto 1 end;", "1:"))

    def test_goto(self):
        self.bad(
            "goto",
            program("label 1;", "goto 1; begin @1: end"), program("label 1;", "begin 1: end; goto @1"),
            program("label 1;", "if true then 1: ; goto @1"), program("label 1;", "goto 1; if true then @1:"),
            program("label 1;", "if true then 1: else goto @1"), program("label 1;", "if true then goto 1 else @1:"),
            program("label 1;", "repeat 1: until true; goto @1"), program("label 1;", "goto 1; repeat @1: until true"),
            program("label 1; var i: integer;", "for i := 1 to 2 do begin 1: end; goto @1"),
            program("label 1; var i: integer;", "case 1 of 1: 1: ; 2: goto @1 end"),
            program("label 1; procedure q; begin goto 1 end;", "begin @1: end"),
            program("label 1; procedure q; begin goto 1 end;", "if true then @1:"),
            program("label 1; procedure q; procedure r; begin goto 1 end; begin end;", "repeat @1: until true"),
            program("label 1;", "begin goto 1 end; begin @1: end"), program("label 1;", "while true do 1: ; goto @1"),
            program("label 1, 2;", "goto 1; begin @1: ; goto 2 end; 2:"))
        self.right(
            program("label 1;", "goto 1; 1:"), program("label 1;", "1: ; goto 1"),
            program("label 1;", "begin begin goto 1 end end; 1:"), program("label 1;", "1: ; repeat goto 1 until true"),
            program("label 1;", "if true then 1: begin goto 1 end"), program("label 1;", "if true then 1: goto 1"),
            program("label 1;", "begin goto 1; begin goto 1 end; 1: end"),
            program("label 1;", "repeat 1: if true then goto 1 until true"),
            program("label 1;", "while true do begin 1: ; while true do goto 1 end"),
            program("label 1; procedure q; procedure r; begin goto 1 end; begin goto 1 end;", "1:"),
            program("label 1; procedure q; begin while true do goto 1 end;", ";; 1: begin end"),
            program("label 1, 2;", "1: if true then 2: goto 1"))

    def test_local(self):
        self.bad(
            "local",
            program("var i: integer; procedure q; begin for @i := 1 to 2 do end;"),
            program("procedure q(i: integer); begin for @i := 1 to 2 do end;"),
            program("procedure q(var i: integer); begin for @i := 1 to 2 do end;"),
            program("const i = 1;", "for @i := 1 to 2 do"), program("function f: integer; begin for @f := 1 to 2 do end;"),
            program("var r: record i: integer end;", "with r do for @i := 1 to 2 do"),
            program("var r: record i: integer end; i: integer;", "with r do for @i := 1 to 2 do"),
            program("", "for @maxint := 1 to 2 do"), program("", "for @integer := 1 to 2 do"),
            program("", "for @input := 1 to 2 do", "(input)"), program("type t = (a, b);", "for @a := a to b do"),
            program("procedure q; begin end;", "for @q := 1 to 2 do"))
        self.right(
            program("var i: integer;", "for i := 1 to 2 do"),
            program("var i: integer; procedure q; var i: integer; begin for i := 1 to 2 do end;"),
            program("var r: record j: integer end; i: integer;", "with r do for i := 1 to 2 do"))

    def test_threat(self):
        parts = "var i, j: integer; f: text; g: file of integer; procedure q(var x: integer); begin end;"
        for statement in (
                "@i := 1", "begin if true then @i := 1 end", "for @i := 1 to 2 do", "for j := 1 to 2 do @i := 1",
                "q(@i)", "read(@i)", "read(f, @i)", "readln(j, @i)", "read(g, @i)", "for j := 1 to 2 do @j := 1",
                "repeat q(j); q(@i) until true", "case i of 1: read(@i) end", "while i = 1 do @i := 1"):
            self.bad("threat", program(parts, "for i := 1 to 2 do " + statement, "(input)"))
        for statement in (
                "j := i", "j := i + i", "q(j)", "for j := i to i do", "read(j)", "writeln(f, i)", "if i = j then"):
            self.right(program(parts, "for i := 1 to 2 do " + statement + "; i := 1; q(i); read(i)", "(input)"))
        self.right(program(parts, "for i := 1 to 2 do; for i := 1 to 2 do"))

    def test_threats_in_inner_routines(self):
        for statement in ("i := 1", "q(i)", "read(i)", "readln(i)", "if true then i := 1"):
            parts = "var i: integer; procedure q(var x: integer); begin end; procedure r; "
            self.bad(
                "threat",
                program(parts + "begin " + statement + " end;", "for @i := 1 to 2 do", "(input)"),
                program(parts + "procedure s; begin " + statement + " end; begin end;", "for @i := 1 to 2 do", "(input)"))
            self.right(
                program(parts + "begin " + statement + " end;", "i := 1", "(input)"),
                program(parts + "var i: integer; begin " + statement + " end;", "for i := 1 to 2 do", "(input)"))
        self.bad("threat", program(
            "procedure r; var i: integer; procedure s; begin i := 1 end; begin i := 2; for @i := 1 to 2 do end;"))
        self.right(program(
            "var i: integer; procedure r; var i: integer; procedure s; begin i := 1 end; begin end;",
            "for i := 1 to 2 do"))

    def test_threats_by_routines_that_are_parameters(self):
        parts = "var i: integer; procedure q(procedure r(var x: integer)); begin r(i) end;"
        self.bad("threat", program(parts, "for @i := 1 to 2 do"))
        self.bad("threat", program(
            "procedure q(procedure r(var x: integer)); var i: integer; begin for i := 1 to 2 do r(@i) end;"))


class OrderTest(Judging, unittest.TestCase):
    """Several wrong things in one text."""

    def test_the_first_that_is_known(self):
        self.wrong(BadName, "unknown", program("const a = @b; c = d;"), program("var x: integer;", "x := @y; z"))
        self.wrong(BadName, "twice", program("var a, @a: integer;", "x := y"))
        self.wrong(BadKind, "alike", program("var x: integer;", "x := @true; y"))
        self.wrong(BadKind, "alike", "program p; label 1; var x: integer; begin x := @true end.")
        self.wrong(BadName, "unknown", program("var x: integer;", "x := @y + true"))
        self.wrong(BadName, "unknown", program("var x: integer;", "x := (true + @y)"))
        self.wrong(BadKind, "alike", program("var x: integer;", "x := true + @1 + y"))
        self.wrong(BadName, "label", program("", "@1: x"))
        self.wrong(BadName, "label", program("label 1;", "1: goto @2; 1:"))

    def test_names_ahead_of_kinds_at_one_token(self):
        self.wrong(BadName, "threat", program("var i: integer; procedure q(var x: char); begin end;",
                                              "for i := 1 to 2 do q(@i)"))
        self.wrong(BadName, "local", program("", "for @integer := 1 to 2 do"))
        self.wrong(BadName, "file", program("var i: integer;", "i := @input"))
        self.wrong(BadName, "local", program("var x: text; procedure q; begin for @x := 1 to 2 do end;"))
        self.wrong(BadKind, "ordinal", program("var x: text;", "for @x := 1 to 2 do"))

    def test_tokens_syntax_and_strings_come_first(self):
        self.refused(BadToken, (2, 1), Program, "program p; begin x := y end.\n!")
        self.refused(BadSyntax, (2, 1, ("(end)",)), Program, "program p; begin x := y end.\nz")
        self.refused(Wide, 255, Program, "program p; begin x := y; z('" + "a" * 256 + "') end.")
        self.wrong(BadName, "unknown", program("", "@x := y; z('" + "a" * 255 + "')"))


class WideTest(Judging, unittest.TestCase):
    def wide(self, number, text):
        self.refused(Wide, number, Program, text)

    def test_strings(self):
        self.right("program p(output); begin writeln('" + "a" * 255 + "') end.")
        self.wide(255, "program p(output); begin writeln('" + "a" * 256 + "') end.")
        self.right("program p(output); begin writeln('" + "''" * 255 + "') end.")
        self.wide(255, "program p(output); begin writeln('" + "''" * 256 + "') end.")

    def test_routines(self):
        def routines(many):
            return "".join("procedure q{}; begin end; ".format(number) for number in range(many))
        self.right(program(routines(11)))
        self.wide(12, program(routines(12)))
        self.wrong(BadName, "unknown", program(routines(12), "@x"))
        self.right(program("procedure f; forward; procedure g(procedure h); begin end; procedure f; begin end;" + routines(9)))

    def test_levels(self):
        def nested(many):
            return program("".join("procedure q{}; ".format(number) for number in range(many)) + "begin end; " * many)
        self.right(nested(9))
        self.wide(9, nested(10))
        self.wide(12, nested(12))

    def test_layouts(self):
        def aims(many):
            kinds = "".join("k{0} = record x: integer end; p{0} = ^k{0}; ".format(number) for number in range(many))
            return program("type " + kinds)
        self.right(aims(24))
        self.wide(24, aims(25))
        self.right(program("type " + "".join("p{} = ^integer; ".format(number) for number in range(30))))

    def test_signatures(self):
        def handed(many):
            kinds = ["array [1..{}] of char".format(number + 2) for number in range(many)]
            told = "".join("k{} = {}; ".format(number, kind) for number, kind in enumerate(kinds))
            rows = "; ".join("procedure r{0}(x: k{0})".format(number) for number in range(many))
            return program("type " + told + "procedure q(" + rows + "); begin end;")
        self.right(handed(12))
        self.wide(12, handed(13))
        same = "; ".join("procedure r{}(x: integer)".format(number) for number in range(20))
        self.right(program("procedure q(" + same + "); begin end;"))
        inner = "procedure a"
        for _ in range(11):
            inner = "procedure a(" + inner + ")"
        self.right(program("procedure q(" + inner + "); begin end;"))
        self.wide(12, program("procedure q(procedure b(" + inner + ")); begin end;"))

    def test_signatures_are_alike_by_layouts(self):
        parts = "type t = 1..5; c = (red, green); s = set of t; u = set of c;"
        rows = "; ".join("procedure a{}(x: {})".format(*row) for row in enumerate(["integer", "t", "c"] * 5))
        self.right(program(parts + "procedure q(" + rows + "); begin end;"))
        kinds = ["array [1..{}] of char".format(number + 2) for number in range(11)]
        told = "".join("k{} = {}; ".format(number, kind) for number, kind in enumerate(kinds))
        rows = "; ".join("procedure r{0}(x: k{0})".format(number) for number in range(11))
        both = "; procedure x(y: integer); procedure y(z: t); procedure z(x: c)"
        self.right(program(parts + told + "procedure q(" + rows + both + "); begin end;"))
        self.wide(12, program(parts + told + "procedure q(" + rows + both + "; procedure w(var x: c)); begin end;"))
        self.wide(12, program(parts + told + "procedure q(" + rows + both + "; function w(x: c): c); begin end;"))

    def test_long_signatures(self):
        def long(many):
            names = ", ".join("a{}".format(number) for number in range(many))
            return program("procedure q(procedure r(" + names + ": integer)); begin end;")
        self.right(long(40))
        self.wide(40, long(41))
        names = ", ".join("a{}".format(number) for number in range(41))
        self.right(program("procedure q(" + names + ": integer); begin end;"))
        self.wide(40, program("procedure q(procedure s(procedure r(" + names + ": integer))); begin end;"))

    def test_the_first_of_them(self):
        deep = "".join("procedure q{}; ".format(number) for number in range(10)) + "begin end; " * 10
        aims = "type " + "".join("k{0} = record x: integer end; p{0} = ^k{0}; ".format(number) for number in range(25))
        names = ", ".join("a{}".format(number) for number in range(41))
        long = "procedure z(procedure r(" + names + ": integer)); begin end;"
        self.wide(9, program(aims + deep))
        self.wide(24, program(aims + long))
        self.wide(9, program(long + "".join("procedure q{}; ".format(n) for n in range(10)) + "begin end; " * 10))


if __name__ == "__main__":
    unittest.main()
