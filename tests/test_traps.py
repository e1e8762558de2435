"""Running (section 8): places and sums, each trap with its word and its line, at its edge and beside it."""

import unittest

from tests.common import Running, ran

MAX = "2147483647"
KINDS = (
    "type color = (red, green, blue); small = 1..9; letter = 'b'..'y'; no = false..false; warm = red..green;"
    " digits = set of 1..5; row = array [1..3] of integer; word = packed array [1..3] of char; ptr = ^node;"
    " node = record n: integer; next: ptr end;"
    " shape = record x: integer; case big: boolean of true: (w, h: integer); false: (r: integer) end;"
    " loose = record case integer of 1: (a, b: integer); 2: (c: char); 3: (case boolean of true: (d: integer)) end;"
    " var i, j: integer; b, b2: boolean; c: char; k: color; s: small; l: letter; n: no; m: warm; d: digits;"
    " any: set of char; all: set of 0..127; v: row; t, u: word; p, q: ptr; o: shape; z: loose;"
    " f: file of integer; g: text;")


class TrapsTest(Running, unittest.TestCase):
    def test_unset(self):
        for body in (
                "i := i", "i := v[1]", "b := b", "c := c", "k := k", "all := all", "p := p", "i := o.x", "i := p^.n",
                "if b then", "case i of 1: end", "write(i)", "write(c: 2)", "write(1: i)", "for i := j to 3 do",
                "while b do", "dispose(p)", "write(t)", "i := i + 1", "b := b or true", "b := [i] = []",
                "i := ord(c)", "rewrite(f); i := f^", "rewrite(f); put(f)"):
            self.traps("unset", KINDS, body)

    def test_unset_beside(self):
        self.ends(KINDS, "v := v; t := u; o := o; z := z; v[2] := 1; i := v[2]; rewrite(f); f^ := 1; i := f^; put(f)")

    def test_stretch(self):
        cases = {
            "s := {}": ("0", "10", "1", "9"), "i := 0; for s := {} to 9 do i := i + 1": ("0", "-5", "1", "9"),
            "for s := 1 to {} do": ("10", "11", "9", "0"), "for s := 9 downto {} do": ("0", "-1", "1", "10"),
            "c := chr({})": ("31", "127", "32", "126"), "l := chr({})": ("97", "122", "98", "121"),
            "d := [{}]": ("0", "6", "1", "5"), "d := [2, 3..{}]": ("6", "127", "5", "2"),
            "m := succ({})": ("green", "blue", "red", "red"), "k := succ({})": ("blue", "blue", "green", "red"),
            "k := pred({})": ("red", "red", "green", "blue"), "n := {}": ("true", "not false", "false", "not true"),
            "b := succ({})": ("true", "true", "false", "false"), "b := pred({})": ("false", "false", "true", "true"),
            "c := succ(chr({}))": ("126", "126", "125", "32"), "c := pred(chr({}))": ("32", "32", "33", "126"),
        }
        for body, (one, other, right, last) in cases.items():
            for wrong in (one, other):
                self.traps("stretch", KINDS, body.format(wrong))
            for fine in (right, last):
                self.ends(KINDS, body.format(fine))

    def test_stretch_of_values_handed(self):
        told = KINDS + " procedure a(x: small); begin end; procedure e(x: digits); begin end; procedure h(x: letter);"
        told += " begin end;"
        for body in ("a(0)", "a(10)", "e([0])", "e([6])", "h('a')", "h('z')"):
            self.traps("stretch", told, body)
        self.ends(told, "a(1); a(9); e([]); e([1..5]); h('b'); h('y')")

    def test_a_for_that_is_not_done_looks_at_nothing(self):
        self.ends(KINDS, "for s := 20 to 10 do; for s := -5 downto 3 do")

    def test_index(self):
        told = KINDS + " e: array [-2..2] of integer; x: array [color, char] of integer; y: array [boolean] of char;"
        for body in ("v[0] := 1", "v[4] := 1", "i := v[0]", "i := v[4]", "e[-3] := 1", "e[3] := 1", "v[maxint] := 1"):
            self.traps("index", told, body)
        self.ends(told, "v[1] := 1; v[3] := 1; e[-2] := 1; e[2] := 1; x[red, ' '] := 1; x[blue, '~'] := 1; y[true] := 'a'")
        self.traps("index", told + " w: array [green..blue] of integer;", "w[red] := 1")
        self.traps("index", told + " w: array ['b'..'c'] of integer;", "w['d'] := 1")

    def test_member(self):
        for body in (
                "all := [-1]", "all := [128]", "all := [0..128]", "all := [-1..5]", "b := [128] = []",
                "all := [5..-1]", "all := [128..1]", "d := [200..1]", "b := [1, 128] <> []"):
            self.traps("member", KINDS, body)
        self.ends(KINDS, "all := [0, 127, 0..127]; all := [127..0]; d := []; any := [' '..'~']")

    def test_a_trap_of_an_item_comes_when_both_ends_are_worked_out(self):
        self.traps("nought", KINDS, "all := [200..1 div 0]")
        self.traps("member", KINDS, "all := [200, 1 div 0]")

    def test_in_besides_what_sets_hold(self):
        body = "write(-1 in [0..127]: 6, 0 in [0]: 6, 127 in [127]: 6, 128 in [0..127]: 6, maxint in [1]: 6, red in []: 6)"
        self.writes(" false  true  true false false false", KINDS, body)
        self.traps("nought", KINDS, "b := 1 div 0 in [200]")

    def test_beyond(self):
        wrong = (
            MAX + " + 1", "-" + MAX + " - 1", "2 * 1073741824", "-2 * 1073741824", "65536 * 65536", "sqr(46341)",
            "sqr(-46341)", "succ(maxint)", "pred(-maxint)", "-maxint + -1")
        right = (
            MAX + " + 0", "-" + MAX + " - 0", "2 * 1073741823", "-2 * 1073741823 - 1", "sqr(46340)", "succ(maxint - 1)",
            "pred(-maxint + 1)", "abs(-maxint)", "-(-maxint)", "-maxint + maxint")
        for sum_ in wrong:
            sum_ = sum_.replace("+ -1", "+ (-1)").replace("-2 *", "(-2) *")
            self.traps("beyond", KINDS, "i := " + sum_)
        for sum_ in right:
            self.ends(KINDS, "i := " + sum_.replace("-2 *", "(-2) *"))

    def test_div_and_mod_with_signs(self):
        rows = []
        for one in (-7, -6, -1, 0, 1, 6, 7):
            for other in (-3, -2, 2, 3):
                quotient = abs(one) // abs(other) * (1 if (one < 0) == (other < 0) else -1)
                rows.append(("({}) div ({})".format(one, other), quotient))
                if other > 0:
                    rows.append(("({}) mod {}".format(one, other), one % other))
        for row, told in rows:
            self.writes(str(told), "", "write({}: 1)".format(row))
        for body in ("i := 1 div 0", "i := 0 div (1 - 1)"):
            self.traps("nought", KINDS, body)
        for body in ("i := 1 mod 0", "i := 1 mod (-1)", "i := 0 mod (-maxint)"):
            self.traps("below", KINDS, body)
        self.ends(KINDS, "i := 5 mod 1; i := -maxint div (-1); i := (-maxint) mod maxint")

    def test_truths(self):
        told = "var a, b: boolean;"
        body = "for a := false to true do for b := false to true do write(a and b: 6, a or b: 6, not a: 6, a = b: 6, a < b: 6)"
        rows = [(a and b, a or b, not a, a == b, a < b) for a in (False, True) for b in (False, True)]
        self.writes("".join(str(so).lower().rjust(6) for row in rows for so in row), told, body)

    def test_comparisons_of_ordinals(self):
        told = "type color = (red, green, blue); var i, j: integer; c, d: char; k, m: color;"
        for head, one, other in (("i := -1 to 1", "i", "j"), ("c := 'a' to 'c'", "c", "d"), ("k := red to blue", "k", "m")):
            inner = head.replace(one + " :=", other + " :=")
            sums = ", ".join("{} {} {}: 6".format(one, sign, other) for sign in ("=", "<>", "<", "<=", ">", ">="))
            body = "for {} do for {} do write({})".format(head, inner, sums)
            rows = [(a == b, a != b, a < b, a <= b, a > b, a >= b) for a in range(3) for b in range(3)]
            self.writes("".join(str(so).lower().rjust(6) for row in rows for so in row), told, body)

    def test_odd(self):
        body = "for i := -3 to 3 do write(odd(i): 6)"
        self.writes("  true false  true false  true false  true", KINDS, body)

    def test_case(self):
        for body in ("case 0 of 1, 3: end", "case 2 of 1, 3: end", "case 4 of 1, 3: end", "case 'a' of 'b': end"):
            self.traps("case", KINDS, body)
        self.ends(KINDS, "case 1 of 1, 3: end; case 3 of 1, 3: end; case red of blue: ; red: end; case 900 of 1: ; 900: end")
        self.traps("case", KINDS, "case 500 of 1: ; 900: end")

    def test_arm(self):
        self.traps("arm", KINDS, "o.w := 1")
        self.traps("arm", KINDS, "o.big := true; o.r := 1")
        self.traps("arm", KINDS, "i := z.a")
        self.traps("arm", KINDS, "z.a := 1; c := z.c")
        self.traps("arm", KINDS, "z.c := 'a'; i := z.a")
        self.traps("arm", KINDS, "z.d := 1; z.a := 1; i := z.d")
        self.traps("arm", KINDS, "read(g, z.a)")
        self.traps("unset", KINDS, "z.a := 1; i := z.b")
        self.traps("unset", KINDS, "o.big := true; i := o.w")
        self.ends(KINDS, "o.big := true; o.w := 1; i := o.w; o.big := false; o.r := 2; z.a := 1; z.b := 2; i := z.a; z.d := 1")

    def test_nil_and_gone(self):
        for body in ("p := nil; i := p^.n", "p := nil; dispose(p)", "p := nil; p^.n := 1", "p := nil; p^ := p^"):
            self.traps("nil", KINDS, body)
        for body in (
                "new(p); dispose(p); i := p^.n", "new(p); dispose(p); dispose(p)", "new(p); q := p; dispose(q); p^.n := 1",
                "new(p); dispose(p); new(q); i := p^.n"):
            self.traps("gone", KINDS, body)
        self.ends(KINDS, "new(p); p^.n := 1; new(p^.next); p^.next^ := p^; dispose(p^.next); dispose(p)")

    def test_places_found_ahead(self):
        told = KINDS + (
            " procedure a(var x: integer); begin dispose(p); x := 1 end; procedure e(var x: integer); begin dispose(p);"
            " i := x end; procedure h(var x: integer); begin z.c := 'c'; x := 1 end; function lose: integer;"
            " begin dispose(p); lose := 1 end;")
        for body, word in (("a(p^.n)", "gone"), ("e(p^.n)", "gone")):
            text = "program p1(output); " + told + "\nbegin new(p); p^.n := 1;\n" + body + " end."
            self.assertEqual(ran(text)[1], ("trap", word, 1))
        text = "program p1(output); " + told + "\nbegin z.a := 1;\nh(z.a) end."
        self.assertEqual(ran(text)[1], ("trap", "arm", 1))
        self.traps("gone", told, "new(p); p^.n := lose")
        self.traps("gone", told, "new(p); with p^ do begin dispose(p); n := 1 end")
        self.traps("arm", told, "z.a := 1; with z do begin z.c := 'a'; i := a end")
        # Found again behind the arm came back to live, it is the same place.
        self.ends(told, "z.a := 1; with z do begin z.c := 'a'; z.a := 1; i := a end")

    def test_gone_comes_ahead_of_arm(self):
        told = KINDS.replace("f: file", "lp: ^loose; f: file") + (
            " procedure h(var x: integer); begin lp^.c := 'c'; dispose(lp);\nx := 1 end;")
        text = "program p1(output); " + told + "\nbegin new(lp); lp^.a := 1; h(lp^.a) end."
        self.assertEqual(ran(text)[1], ("trap", "gone", 2))
        self.traps("gone", KINDS.replace("f: file", "lp: ^loose; f: file"), "new(lp); dispose(lp); lp^.a := 1")

    def test_full(self):
        told = "type r = array [1..1000] of integer; var p: ^r; q: ^integer; i: integer;"
        self.traps("full", told, "new(p); new(p); new(q)")
        self.ends(told, "new(p); new(p)")
        self.traps("full", told, "for i := 1 to 1001 do new(q); new(p)")
        self.ends(told, "for i := 1 to 2000 do begin new(q) end")
        self.ends(told, "for i := 1 to 3000 do begin new(p); dispose(p) end")

    def test_file_end_figures_width(self):
        for body in ("get(f)", "put(f)", "reset(f)", "i := f^", "f^ := 1", "b := eof(f)", "b := eoln(g)", "read(g, i)",
                     "write(g, 1)", "writeln(g)", "readln(g)", "rewrite(f); get(f)", "rewrite(f); reset(f); f^ := 1"):
            self.traps("file", KINDS, body)
        for body in ("read(f, i)", "get(f)", "i := f^"):
            self.traps("end", KINDS, "rewrite(f); write(f, 1); reset(f); read(f, i); " + body)
        for body in ("read(g, i)", "read(g, c)", "readln(g)", "b := eoln(g)", "c := g^", "get(g)"):
            self.traps("end", KINDS, "rewrite(g); reset(g); " + body)
        self.traps("figures", KINDS, "rewrite(g); write(g, 'a'); reset(g); read(g, i)")
        self.traps("beyond", KINDS, "rewrite(g); write(g, '2147483648'); reset(g); read(g, i)")
        self.traps("stretch", KINDS, "rewrite(g); write(g, 10); reset(g); read(g, s)")
        self.ends(KINDS, "rewrite(g); write(g, 9); reset(g); read(g, s); b := eof(g)")
        for width in ("0", "-1", "256", "maxint"):
            for value in ("1", "true", "'a'", "'ab'"):
                self.traps("width", KINDS, "write({}: {})".format(value, width))
        self.ends(KINDS, "write(1: 1, true: 255, 'a': 255, 'ab': 1)")

    def test_width_comes_behind_file_and_unset(self):
        self.traps("file", KINDS, "write(g, 1: 0)")
        self.traps("unset", KINDS, "write(g, t: 0)")
        self.traps("nought", KINDS, "write(g, 1: 1 div 0)")

    def test_from_left_to_right_each_thing_once(self):
        told = (
            "var i: integer; b: boolean; v: array [1..9] of integer; function f(n: integer): integer;"
            " begin write(n: 1); f := n end; function t(n: integer; r: boolean): boolean; begin write(n: 1); t := r end;")
        for sum_, order in (
                ("f(1) + f(2) * f(3)", "123"), ("(f(1) + f(2)) * f(3)", "123"), ("f(1) - (f(2) - f(3))", "123"),
                ("f(4) div f(2) mod f(3)", "423"), ("v[f(1)] + f(2)", "12"), ("abs(f(3))", "3"), ("f(f(2))", "22")):
            self.writes(order, told, "v[1] := 0; i := " + sum_)
        for sum_, order in (
                ("t(1, false) and t(2, true)", "12"), ("t(1, true) or t(2, false)", "12"), ("f(1) = f(2)", "12"),
                ("f(1) in [f(2), f(3)..f(4)]", "1234"), ("not t(1, true) and t(2, true)", "12")):
            self.writes(order, told, "b := " + sum_)
        self.writes("12", told, "v[f(1)] := f(2)")
        self.traps("index", told, "v[0] := 1 div 0")
        self.traps("nought", told, "b := (1 > 2) and (1 div 0 = 1)")
        self.traps("nought", told, "b := (1 < 2) or (1 div 0 = 1)")

    def test_sets(self):
        told = "var a, b: set of 0..127; c: set of char; i: integer; d: set of 3..5;" + (
            " procedure show(s: integer); begin end;")
        body = "a := [1, 3..5]; b := [4..6]; for i := 0 to 7 do write(i in a: 6)"
        self.writes("".join(str(i in (1, 3, 4, 5)).lower().rjust(6) for i in range(8)), told, body)
        for sign, held in (("+", (1, 3, 4, 5, 6)), ("-", (1, 3)), ("*", (4, 5))):
            text = "a := [1, 3..5]; b := [4..6]; a := a {} b; for i := 0 to 7 do write(i in a: 6)".replace("{}", sign)
            self.writes("".join(str(i in held).lower().rjust(6) for i in range(8)), told, text)
        for expression, is_so in (
                ("[1, 2] = [2, 1]", True), ("[1] <> [1]", False), ("[1] <= [1, 2]", True), ("[1, 3] <= [1, 2]", False),
                ("[1, 2] >= [2]", True), ("[] <= [1]", True), ("[] = [5..4]", True), ("[] >= [1]", False),
                ("['a'..'c'] = ['a', 'b', 'c']", True), ("[] = []", True), ("[1..3] - [2] = [1, 3]", True),
                ("[1] + [] = [1]", True), ("[] * [1] = []", True), ("[1] <= [1]", True), ("[127] = [0]", False)):
            self.writes(str(is_so).lower(), told, "write({}: {})".format(expression, 4 if is_so else 5))
        self.traps("stretch", told, "d := [2..5]")
        self.ends(told, "d := [3..5]; d := d + [4]; d := []; d := [9] - [9]")

    def test_strings_are_compared_up_to_the_first_unlike_pair(self):
        told = "type w = packed array [1..3] of char; var a, b: w; x: boolean;"
        for left, sign, right, is_so in (
                ("abc", "=", "abc", True), ("abc", "<>", "abd", True), ("abc", "<", "abd", True), ("abd", "<", "abc", False),
                ("abc", "<=", "abc", True), ("abd", ">", "abc", True), ("aZz", ">=", "aaa", False), ("abc", ">=", "abc", True),
                ("b  ", ">", "azz", True), ("abc", "<>", "abc", False), ("abd", "<>", "abc", True), ("abc", "=", "abd", False),
                ("abd", "<=", "abc", False), ("abc", ">", "abc", False), ("abc", ">=", "abd", False), ("abc", "<", "abc", False)):
            text = "if '{}' {} '{}' then write('y') else write('n')".format(left, sign, right)
            self.writes("y" if is_so else "n", told, text)
        self.writes("y", told, "a[1] := 'a'; b[1] := 'b'; if a < b then write('y')")
        self.traps("unset", told, "a[1] := 'a'; b[1] := 'a'; x := a < b")
        self.traps("unset", told, "a[1] := 'a'; x := 'axx' = a")
        self.traps("unset", told, "a[1] := 'a'; x := a = 'axx'")
        self.ends(told, "a[1] := 'a'; x := 'bxx' = a; x := a <> 'cxx'")

    def test_arrays_are_places_until_they_are_used(self):
        told = (
            "type w = packed array [1..2] of char; var a, b: w; function f: integer; begin a := 'zz'; f := 9 end;"
            " procedure q(x: w; n: integer); begin write(x, n: 2) end;")
        self.writes("zz 9", told, "a := 'aa'; q(a, f)")
        self.writes("       zz", told, "a := 'aa'; write(a: f)")

    def test_the_line_of_a_trap(self):
        text = (
            "program p(output); var i: integer;\nfunction f: integer;\nbegin\n i := 1\nend;\nbegin\n"
            "i := f\nend.")
        self.assertEqual(ran(text)[1], ("trap", "unset", 5))
        text = "program p; var i: integer;\nbegin\ni := 1; while\n1 div i > 0 do\ni := 0;\ni := 2 end."
        self.assertEqual(ran(text)[1], ("trap", "nought", 3))
        text = "program p; var i: integer;\nbegin\nrepeat\ni := 0\nuntil\n1 div i = 1 end."
        self.assertEqual(ran(text)[1], ("trap", "nought", 3))
        text = "program p; var i: integer;\nbegin i := 0;\nbegin i := 1;\ni := 0 end; if i = 0 then\n\ni := 1 div\n0 end."
        self.assertEqual(ran(text)[1], ("trap", "nought", 6))
        text = "program p(output); label 3;\nbegin\n3:\nwrite(output,\n1 div 0) end."
        self.assertEqual(ran(text)[1], ("trap", "nought", 4))
        text = "program p(input,\noutput);\n\nbegin\nend."
        self.assertEqual(ran(text), (None, ("trap", "file", 4)))

    def test_the_line_of_a_for_and_of_with(self):
        text = "program p; var s: 1..3; i: integer;\nbegin\nfor s := 1\nto 4 do\ni := 1 end."
        self.assertEqual(ran(text)[1], ("trap", "stretch", 3))
        text = "program p; var r: record a: integer end; q: ^char;\nbegin q := nil;\nwith r,\nr do\nr.a := ord(q^) end."
        self.assertEqual(ran(text)[1], ("trap", "nil", 5))


if __name__ == "__main__":
    unittest.main()
