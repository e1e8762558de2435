"""Layouts (section 7)."""

import unittest

from begunended.errors import BadKind, NoPlace
from begunended.layouts import layout_of, layouts
from begunended.program import Program
from tests.common import Refusing, marked


def program(kind, kinds=""):
    return Program("program p; " + kinds + " var x: " + kind + "; begin end.")


def layout(kind, kinds=""):
    whole = program(kind, kinds)
    return layout_of(whole, (1, len("program p; " + kinds + " var ") + 1))


def at_mark(text):
    clean, place = marked(text)
    return layout_of(Program(clean), place)


class LayoutOfTest(Refusing, unittest.TestCase):
    def test_one_of_each_kind(self):
        rows = {
            "integer": "n", "boolean": "t", "char": "c", "(red, green)": "n", "1..5": "n", "-5..maxint": "n",
            "'a'..'z'": "c", "false..true": "t", "true..true": "t", "set of char": "s", "set of 1..5": "s", "^char": "^l0",
            "text": "<text>", "file of char": "<c>", "file of boolean": "<t>", "file of record x, y: char end": "<(c,c)>",
            "array [1..5] of char": "5*c", "array [char] of integer": "95*n", "array [boolean] of boolean": "2*t",
            "packed array [1..2] of char": "2*c", "array [-2..2] of set of char": "5*s", "array [(a, b, c)] of ^char": "3*^l0",
            "record x: char end": "(c)", "record x, y: char; z: integer end": "(c,c,n)"}
        for kind, told in rows.items():
            self.assertEqual(layout(kind), told, kind)
        kinds = "type color = (red, green, blue); warm = red..green;"
        self.assertEqual(layout("warm", kinds), "n")
        self.assertEqual(layout("array [warm] of color", kinds), "2*n")
        self.assertEqual(layout("file of array [color] of warm", kinds), "<3*n>")

    def test_arrays_of_arrays(self):
        rows = {
            "array [1..2] of array [1..3] of char": "2*3*c", "array [1..2, 1..3] of char": "2*3*c",
            "array [boolean, char, 5..5] of record x: char end": "2*95*1*(c)",
            "packed array [1..2, 0..2] of array [1..4] of ^char": "2*3*4*^l0"}
        for kind, told in rows.items():
            self.assertEqual(layout(kind), told)

    def test_variants(self):
        rows = {
            "record case x: boolean of true: (); false: () end": "(t,{()|()|()})",
            "record case boolean of true: (y: char) end": "({(c)|()})",
            "record case boolean of true, false: (y: char) end": "({(c)|()})",
            "record x: char; case y: integer of 1, 2: (); 3: (z, w: integer) end": "(c,n,{()|(n,n)|()})",
            "record x: char; case integer of 3: (z: char); 1: (w: integer) end": "(c,{(c)|(n)|()})",
            "record case x: char of 'a': (y: char; case z: boolean of true: (w: integer)) end": "(c,{(c,t,{(n)|()})|()})",
            "record case integer of 1: (x: array [1..2] of record case boolean of true: (y: char) end) end":
                "({(2*({(c)|()}))|()})"}
        for kind, told in rows.items():
            self.assertEqual(layout(kind), told)

    def test_variables_parameters_and_fields(self):
        head = "program p; type r = record x, y: char; case t: boolean of true: (z: integer) end;"
        self.assertEqual(at_mark(head + " var a, @b: r; begin end."), "(c,c,t,{(n)|()})")
        self.assertEqual(at_mark(head + " procedure q(a, @b: r); begin end; begin end."), "(c,c,t,{(n)|()})")
        self.assertEqual(at_mark(head + " procedure q(var @b: r); begin end; begin end."), "(c,c,t,{(n)|()})")
        for field, told in (("x,", "c"), ("y:", "c"), ("t:", "t"), ("z:", "n")):
            self.assertEqual(at_mark(head.replace(field, "@" + field, 1) + " begin end."), told)
        self.assertEqual(at_mark("program p;\nprocedure q;\n var @b: char; begin end;\nbegin end."), "c")

    def test_the_limits(self):
        self.assertEqual(layout("array [1..2000] of char"), "2000*c")
        self.assertEqual(layout("array [1..40] of array [1..50] of char"), "40*50*c")
        self.assertEqual(layout("record x: array [1..1999] of char; y: char end"), "(1999*c,c)")
        twelve = "a, b, c, d, e, f, g, h, i, j, k, l: char"
        self.assertEqual(layout("record " + twelve + " end"), "(" + ",".join("c" * 12) + ")")
        self.assertEqual(
            layout("record case boolean of true: (" + twelve + ") end"), "({(" + ",".join("c" * 12) + ")|()})")
        seven = "; ".join("{}: (a{}: char)".format(number, number) for number in range(7))
        self.assertEqual(layout("record case integer of " + seven + " end"), "({" + "(c)|" * 7 + "()})")
        for kind in (
                "array [1..2001] of char", "array [1..41] of array [1..50] of char", "record " + twelve + "; m: char end",
                "record x: array [1..1999] of char; y, z: char end", "record case integer of " + seven + "; 7: () end",
                "record case boolean of true: (" + twelve + "; m: char) end", "record end",
                "record " + twelve + "; case boolean of true: () end", "record case boolean of true: () end"):
            self.refused(BadKind, (1, 20, "size"), program, kind)

    def test_aims(self):
        kinds = "type a = ^b; b = record x: a; y: ^c end; c = array [1..2] of a; d = ^b; e = ^integer; f = ^c;"
        whole = program("f", kinds)
        self.assertEqual(layouts(whole), (("l0", "(^l0,^l1)"), ("l1", "2*^l0"), ("l2", "n")))
        self.assertEqual(layout("f", kinds), "^l1")
        self.assertEqual(layout("e", kinds), "^l2")
        self.assertEqual(layout("array [1..2] of d", kinds), "2*^l0")
        self.assertEqual(layout("record x: ^char; y: a end", kinds), "(^l3,^l0)")

    def test_layouts_in_the_sequence_of_the_text(self):
        whole = Program(
            "program p; type a = record x: ^late; y: ^char end; late = integer; var v: ^boolean; w: ^char;"
            " procedure q; type b = ^c; c = ^char; var u: record z: ^a end; begin end; begin end.")
        self.assertEqual(layouts(whole), (
            ("l0", "n"), ("l1", "c"), ("l2", "t"), ("l3", "^l1"), ("l4", "(^l0,^l1)")))
        self.assertEqual(layouts(Program("program p; begin end.")), ())

    def test_kinds_that_are_not_the_same_have_names_of_their_own(self):
        whole = Program("program p; type a = 1..2; b = 1..2; var x: ^a; y: ^b; z: ^a; begin end.")
        self.assertEqual(layouts(whole), (("l0", "n"), ("l1", "n")))
        whole = Program("program p; type a = integer; b = a; var x: ^a; y: ^b; z: ^integer; begin end.")
        self.assertEqual(layouts(whole), (("l0", "n"),))

    def test_no_place(self):
        text = "program p; const c = 1; type k = (r, s); var x: k; procedure q(procedure w; y: k); begin x := y end; begin end."
        whole = Program(text)
        columns = [text.index(part) + 1 for part in ("x: k", "y: k")]
        self.assertEqual([layout_of(whole, (1, column)) for column in columns], ["n", "n"])
        for part in ("p;", "c =", "k =", "r,", "k;", "q(", "w;", "k)", "x :=", "y end"):
            self.refused(NoPlace, (1, text.index(part) + 1), layout_of, whole, (1, text.index(part) + 1))
        at = columns[0]
        for place in (
                (0, 0), (2, at), (1, at + 1), (1,), (1, at, 0), [1, at], (True, at), (1, str(at)), None, at, "x", {}, ((1, at),),
                True, (1, None), (1, (at,))):
            self.refused(NoPlace, place, layout_of, whole, place)


if __name__ == "__main__":
    unittest.main()
