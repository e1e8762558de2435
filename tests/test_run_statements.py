"""Running (section 8): statements."""

import unittest

from tests.common import Running, ran

LOOSE = (
    "type loose = record x: integer; case integer of 1: (a, b: integer); 2: (c: char; case boolean of true: (d, e: integer);"
    " false: (f: char)) end; shape = record x: integer; case tag: char of 'a', 'c': (n: integer); 'b': (m: char) end;"
    " ptr = ^loose; var z, y: loose; o: shape; p: ptr; i, j: integer; v: array [1..2] of loose;")


class StatementsTest(Running, unittest.TestCase):
    def test_arms_without_a_tag_come_to_live(self):
        self.writes(" 1 2", LOOSE, "z.a := 1; z.b := 2; write(z.a: 2, z.b: 2)")
        # The arm lives already: nothing is unset.
        self.writes(" 5 2", LOOSE, "z.a := 1; z.b := 2; z.a := 5; write(z.a: 2, z.b: 2)")
        # Both arms come to live, the outer one first, and no arm within lives.
        self.writes("k 4", LOOSE, "z.d := 4; z.c := 'k'; write(z.c, z.d: 2)")
        self.traps("arm", LOOSE, "z.d := 4; z.a := 1; z.c := 'x'; i := z.d")
        self.traps("unset", LOOSE, "z.d := 4; z.f := 'a'; z.e := 1; i := z.d")
        self.writes(" 3", LOOSE, "v[2].a := 3; write(v[2].a: 2)")
        self.writes(" 6", LOOSE, "new(p); p^.a := 6; write(p^.a: 2)")

    def test_only_what_stands_on_the_left_side_makes_arms_live(self):
        self.traps("arm", LOOSE, "new(p); i := z.a")
        told = LOOSE + " procedure q(var k: integer); begin k := 1 end;"
        self.traps("arm", told, "q(z.a)")
        # What stands within an index does not.
        told = LOOSE.replace("v: array", "w: array [1..3] of integer; v: array")
        self.traps("arm", told, "w[z.a] := 1")
        # Fields ahead of the last ^ do not.
        told = LOOSE.replace("ptr = ^loose;", "ptr = ^loose; link = record case boolean of true: (at: ptr) end;")
        told = told.replace("i, j: integer;", "i, j: integer; l: link;")
        self.traps("arm", told, "l.at^.a := 1")
        self.ends(told, "new(p); l.at := p; l.at^.a := 1")

    def test_a_with_s_own_way_makes_no_arm_live(self):
        told = (
            "type r = record case boolean of true: (in1: record case boolean of true: (k: integer) end) end;"
            " var a: r; i: integer;")
        self.traps("arm", told, "with a.in1 do k := 1")
        self.ends(told, "a.in1.k := 2; with a.in1 do k := 1")
        self.ends(told, "with a do in1.k := 1; with a, in1 do i := k")
        # A field of with is on the way, behind the with's own way.
        self.writes(" 3", "type r = record case boolean of true: (k: integer) end; var a: r;", "with a do k := 3; write(a.k: 2)")

    def test_tags_that_are_put(self):
        self.traps("arm", LOOSE, "o.n := 1")
        self.writes(" 4", LOOSE, "o.tag := 'c'; o.n := 4; o.tag := 'a'; write(o.n: 2)")
        self.traps("unset", LOOSE, "o.tag := 'c'; o.n := 4; o.tag := 'b'; o.tag := 'a'; i := o.n")
        self.traps("arm", LOOSE, "o.tag := 'a'; o.n := 4; o.tag := 'z'; i := o.n")
        self.ends(LOOSE, "with o do begin tag := 'b'; m := 'z' end; if o.m = 'z' then i := 1")
        told = "type r = record case b: boolean of true: (case k: integer of 1: (x: char)) end; var a: r; c: char;"
        self.ends(told, "a.b := true; a.k := 1; a.x := 'a'; a.k := 1; c := a.x")
        self.traps("unset", told, "a.b := true; a.k := 1; a.x := 'a'; a.k := 2; a.k := 1; c := a.x")
        self.traps("arm", told, "a.k := 1")
        # A tag that is a stretch is looked at ahead of what it makes live.
        told = "type s = 1..3; r = record case k: s of 1, 9: (x: char) end; var a: r;"
        self.traps("stretch", told, "a.k := 1; a.x := 'a'; a.k := 9")

    def test_a_tag_in_an_arm_without_a_tag(self):
        told = "type r = record case boolean of true: (case k: integer of 1: (x: char)) end; var a: r; c: char;"
        self.ends(told, "a.k := 1; a.x := 'k'; c := a.x")

    def test_records_are_moved_with_arms_and_unset_cells(self):
        self.writes(" 7", LOOSE, "z.a := 7; y := z; z.a := 8; write(y.a: 2)")
        self.traps("unset", LOOSE, "z.a := 7; y := z; i := y.b")
        self.traps("arm", LOOSE, "y.a := 7; y := z; i := y.a")
        self.writes(" 1 2", "type v = array [1..2] of integer; var a, b: v;", "a[1] := 1; a[2] := 2; b := a; write(b[1]: 2, b[2]: 2)")

    def test_neighbours_of_what_is_moved_or_unset_stay(self):
        told = LOOSE.replace("v: array [1..2]", "v: array [1..3]")
        body = "for i := 1 to 3 do begin v[i].x := i; v[i].a := i * 10 end; z.x := 7; z.c := 'k'; v[2] := z;"
        self.writes(" 1 10 7k 3 30", told, body + " write(v[1].x: 2, v[1].a: 3, v[2].x: 2, v[2].c, v[3].x: 2, v[3].a: 3)")
        self.writes(" 1 10 2 3 30", told, body + " v[2].x := 2; write(v[1].x: 2, v[1].a: 3, v[2].x: 2, v[3].x: 2, v[3].a: 3)")
        self.traps("unset", told, body + " v[2].a := 1; v[2].c := 'a'; v[2].a := 1; i := v[2].b")
        self.writes(" 10 30", told, body + " v[2].a := 1; v[2].c := 'a'; write(v[1].a: 3, v[3].a: 3)")

    def test_with(self):
        told = "type r = record a, b: integer end; var x, y: r; v: array [1..2] of r; i: integer;"
        self.writes(" 1 2", told, "with x do begin a := 1; b := a + 1 end; write(x.a: 2, x.b: 2)")
        # The place is found once.
        self.writes(" 5", told, "i := 1; with v[i] do begin i := 2; a := 5 end; write(v[1].a: 2)")
        told = "type r = record a: integer; q: record b: integer end end; var x: r; w: record a: char end;"
        self.writes("z 3", told, "with x, q, w do begin a := 'z'; b := 3 end; write(w.a, x.q.b: 2)")
        self.writes(" 8", told, "with x do with q do b := 8; write(x.q.b: 2)")
        told = "type p = ^r; r = record a: integer; n: p end; var h: p;"
        self.writes(" 2 1", told, "new(h); h^.a := 1; new(h^.n); with h^, n^ do a := 2; write(h^.n^.a: 2, h^.a: 2)")

    def test_for(self):
        told = "type color = (red, green, blue); var i, j: integer; s: 3..5; c: char; b: boolean; k: color; n: integer;"
        for head, times in (
                ("i := 1 to 5", "     "), ("i := 5 downto 1", "     "), ("i := 5 to 1", ""), ("i := 1 downto 5", ""),
                ("i := 3 to 3", " "), ("s := 3 to 5", "   "), ("s := 5 downto 3", "   "), ("c := 'a' to 'd'", "    "),
                ("b := false to true", "  "), ("b := true downto false", "  "), ("k := red to blue", "   "),
                ("k := blue downto green", "  "), ("i := maxint - 1 to maxint", "  "),
                ("i := -maxint + 1 downto -maxint", "  "), ("c := '~' to '~'", " ")):
            self.writes(times.replace(" ", "x"), told, "for {} do write('x')".format(head))
        self.writes(" 1 2 3", told, "for i := 1 to 3 do write(i: 2)")
        self.writes("cba", told, "for c := 'c' downto 'a' do write(c)")
        self.writes("false true", told, "for b := false to true do write(b: 5)")
        # Ends are worked out once.
        self.writes("xxx", told, "n := 3; for i := 1 to n do begin n := 9; write('x') end")

    def test_the_name_of_a_for_behind_it(self):
        told = "label 7; var i, j: integer; s: 1..3;"
        self.traps("unset", told, "7: for i := 1 to 3 do; j := i")
        self.traps("unset", told, "7: i := 4; for i := 3 to 1 do; j := i")
        text = "program p(output); label 7; var i: integer; begin for i := 1 to 5 do if i = 3 then goto 7; 7: write(i) end."
        self.assertEqual(ran(text), ("         3", ("done",)))

    def test_for_looks_at_the_first_end_first(self):
        text = "program p; var s: 1..3;\nbegin for s := 0 to 9 do end."
        self.assertEqual(ran(text)[1], ("trap", "stretch", 2))

    def test_case(self):
        told = "type color = (red, green, blue); var k: color; i: integer;"
        body = "for k := red to blue do case k of green: write('g'); blue, red: write('x') end"
        self.writes("xgx", told, body)
        many = "; ".join("{}: write('{}')".format(n * 1000, chr(97 + n)) for n in range(5))
        self.writes("e", told, "case 4000 of " + many + " end")
        numbers = ", ".join(str(n * 3) for n in range(80))
        self.writes("y", told, "case 237 of " + numbers + ": write('y'); 5: write('n') end")
        self.traps("case", told, "case 238 of " + numbers + ": write('y'); 5: write('n') end")

    def test_goto(self):
        told = "label 1, 2, 3; var i: integer;"
        self.writes("abab", told, "i := 0; 1: i := i + 1; write('a'); goto 2; 3: write('x'); 2: write('b'); if i < 2 then goto 1")
        body = "i := 0; while true do begin repeat i := i + 1; if i > 3 then goto 1 until false end; 1: 2: 3: write(i: 1)"
        self.writes("4", told, body.replace("1: 2: 3:", "2: ; 3: ; 1:"))
        text = (
            "program p(output); label 9; var n: integer; procedure q(k: integer); label 5; procedure r; begin n := n + 1;"
            " if n > 4 then goto 9; if k > 2 then goto 5; q(k + 1) end; begin r; write('n'); 5: write(k: 1) end;"
            " begin n := 0; q(0); write('x'); 9: write('!') end.")
        # From within the fourth q a goto to its own label, then all return.
        self.assertEqual(ran(text)[0], "3n2n1n0x!")
        text = text.replace("n > 4", "n > 2")
        self.assertEqual(ran(text)[0], "!")

    def test_goto_out_of_a_handed_routine(self):
        text = (
            "program p(output); procedure out(procedure a); begin a; write('x') end; procedure q; label 4; procedure leave1;"
            " begin goto 4 end; begin out(leave1); write('y'); 4: write('z') end; begin q; write('.') end.")
        self.assertEqual(ran(text), ("z.", ("done",)))

    def test_goto_within_the_statement_with_its_label(self):
        text = "program p(output); label 1; var i: integer; begin i := 0; 1: begin i := i + 1; write(i: 1); if i < 3 then goto 1 end end."
        self.assertEqual(ran(text)[0], "123")

    def test_read_and_readln(self):
        told = "var i, j: integer; c, d: char; s: 1..9;"
        head = "input, output"
        self.writes("  7 -3x", told, "read(i, j, c); write(i: 3, j: 3, c)", (("input", " 7\n-3x"),), head)
        self.writes("1a2", told, "readln(i, c); read(j); write(i: 1, c, j: 1)", (("input", "1abc\n2"),), head)
        self.writes("ab", told, "read(c); readln; read(d); write(c, d)", (("input", "a\nb"),), head)
        self.writes(" true", told, "read(c); write(eoln: 5)", (("input", "a"),), head)
        self.writes(" true", told, "readln; write(eof: 5)", (("input", "a"),), head)
        self.traps("stretch", told, "read(s)", (("input", "10"),), head)
        self.traps("end", told, "read(i, j)", (("input", "1"),), head)
        self.traps("figures", told, "read(i)", (("input", "x"),), head)
        self.writes("2", told + " v: array [1..3] of integer;", "read(i, v[i]); write(v[2]: 1)", (("input", "2 2"),), head)

    def test_other_files(self):
        told = "type r = record a: integer; b: array [1..2] of char end; var f, g: file of r; h: file of 1..9; x, y: r; i: integer;"
        body = "x.a := 1; x.b[1] := 'p'; x.b[2] := 'q'; rewrite(f); write(f, x); f^.a := 2; put(f); reset(f); y := f^;"
        self.writes(" 1pq 2 true", told, body + " write(f^.a: 2, f^.b[1], f^.b[2]); get(f); write(f^.a: 2); get(f); write(eof(f): 5)")
        self.writes(" 1", told, body + " read(f, y); write(y.a: 2)")
        self.writes(" 5 6", told, "rewrite(h); write(h, 5, 6); reset(h); read(h, i); write(i: 2); read(h, i); write(i: 2)")
        self.traps("stretch", told, "rewrite(h); write(h, 10)")
        self.traps("file", told, body + " f^.a := 1")
        self.traps("unset", told, body + " get(f); write(f^.b[1])")

    def test_text_windows(self):
        told = "var g: text; c: char;"
        self.writes("ab", told, "rewrite(g); g^ := 'a'; put(g); g^ := 'b'; write(g, 'x'); put(g); reset(g); c := g^; read(g, c);"
                    " write(c); get(g); read(g, c); write(c)")
        self.writes("  true", told, "rewrite(g); writeln(g); reset(g); write(g^, eoln(g): 5)")

    def test_write_with_and_without_widths(self):
        told = "var b: boolean; w: packed array [1..4] of char;"
        self.writes("         1 truea  abc    12", told, "write(1, true, 'a', 'abc': 5, 12: 6)")
        self.writes("12345trfaa", told, "write(12345: 2, true: 2, false: 2, 'a': 1)")
        self.writes("x\n\n", told, "writeln('x'); writeln")
        self.writes("abcd", told, "w := 'abcd'; write(w)")

    def test_files_by_var_and_of_routines(self):
        told = "procedure q(var f: text); begin write(f, 'k') end; procedure r; var g: text; begin rewrite(g); q(g); q(output) end;"
        self.writes("kk", told, "r; r")
        # Each surrounding has its own file, which is unused at first.
        text = "program p(output);\nprocedure q(n: integer); var g: text; begin\nif n = 1 then rewrite(g) else reset(g) end; begin q(1); q(2) end."
        self.assertEqual(ran(text)[1], ("trap", "file", 3))

    def test_new_and_dispose(self):
        told = "type p = ^r; r = record n: integer; q: p end; var h, t: p; i: integer;"
        body = "h := nil; for i := 1 to 3 do begin new(t); t^.n := i; t^.q := h; h := t end;"
        self.writes(" 3 2 1", told, body + " while h <> nil do begin write(h^.n: 2); t := h; h := h^.q; dispose(t) end")
        self.writes("  true false", told, "new(h); t := h; write(h = t: 6, h = nil: 6)")
        self.writes(" true", told, "if nil = nil then h := nil; write(h = nil: 5)")

    def test_read_finds_places_one_by_one(self):
        told = "var i: integer; v: array [1..2] of integer;"
        self.traps("index", told, "v[1] := 0; read(i, v[i])", (("input", "3 1"),), "input, output")


if __name__ == "__main__":
    unittest.main()
