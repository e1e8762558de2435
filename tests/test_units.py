"""Units and orders, cells (section 12)."""

import unittest

from begunended.cells import cells_of
from begunended.errors import BadLayout, BadUnit, NoProc
from begunended.units import Unit
from tests.common import Refusing

MAX = 2147483647
PROGRAM = ["proc p0 -", "takes", "gives -", "names n", "files", "work 5", "leave", "end"]
INNER = ["proc p1 p0", "takes n &n @g0", "gives t", "names t n &(n,n)", "work 3", "leave", "end"]
HEADS = ["layout l0 (n,^l1)", "layout l1 c", "signature g0 takes n &(n,n) @g1 gives ^l0", "signature g1 takes gives -"]
NEEDED = ["needs q1 p0 takes n gives c"]
ALL = HEADS + NEEDED + PROGRAM + INNER


def text_of(rows):
    return "\n".join(rows)


def replaced(rows, at, row):
    return rows[:at] + [row] + rows[at + 1:]


class UnitsTest(Refusing, unittest.TestCase):
    def right(self, rows):
        text = text_of(rows)
        unit = Unit(text)
        self.assertEqual(unit.text, text)
        return unit

    def wrong(self, number, rows):
        self.refused(BadUnit, number, Unit, text_of(rows))

    def code(self, *rows):
        """A program with this code, and the number of the first of its rows."""
        head = HEADS + NEEDED + PROGRAM[:-2]
        return head + list(rows) + ["end"] + INNER, len(head) + 1

    def test_example_of_the_document(self):
        unit = Unit(
            "layout l0 (n,^l0)\nproc p0 -\ntakes\ngives -\nnames ^l0 n\nfiles\nwork 2\nline 1\nplace 0 0\nnew\n"
            "place 0 1\nnum 7\nstore\nleave\nend")
        self.assertEqual([unit.procs, unit.layouts, unit.level("p0")], [("p0",), ("l0",), 0])
        self.assertEqual(cells_of("3*(n,{(c)|(t,t)|()})"), 9)

    def test_what_is_told(self):
        unit = self.right(ALL)
        self.assertEqual(unit.layouts, ("l0", "l1"))
        self.assertEqual(unit.signatures, ("g0", "g1"))
        self.assertEqual(unit.needs, ("q1",))
        self.assertEqual(unit.procs, ("p0", "p1"))
        self.assertEqual(unit.outer("p0"), None)
        self.assertEqual(unit.outer("p1"), "p0")
        self.assertEqual([unit.level("p0"), unit.level("p1")], [0, 1])
        self.assertEqual(unit.code("p1"), ("leave",))
        self.assertEqual(unit, Unit(unit.text))
        self.assertNotEqual(unit, Unit(text_of(PROGRAM)))
        self.assertNotEqual(unit, unit.text)
        for name in ("q1", "p2", "", None, 0, ("p0",), ["p0"], True, "P0"):
            for method in (unit.outer, unit.level, unit.code):
                self.refused(NoProc, name, method, name)

    def test_what_is_no_string(self):
        for value in (None, 0, True, (), ["proc"], {}, ("proc p0 -",)):
            self.refused(BadUnit, 0, Unit, value)

    def test_rows_that_are_missing(self):
        for many in range(len(ALL)):
            if many != len(HEADS) + len(NEEDED) + len(PROGRAM):
                text = text_of(ALL[:many])
                with self.assertRaises(BadUnit) as caught:
                    Unit(text)
                # What names a proc that is cut off cannot stand there itself.
                self.assertIn(caught.exception.value, (many + 1, 1, 3, 5), many)
        for many in range(1, len(PROGRAM)):
            self.wrong(many + 1, PROGRAM[:many])
        self.wrong(1, [""])
        self.wrong(len(PROGRAM) + 1, PROGRAM + [""])
        self.wrong(len(PROGRAM) + 1, PROGRAM + ["leave"])

    def test_each_head_row_missing_or_twice_or_otherwise(self):
        for at in range(len(PROGRAM) - 2):
            self.wrong(at + 1, PROGRAM[:at] + PROGRAM[at + 1:])
            self.wrong(at + 2, PROGRAM[:at + 1] + PROGRAM[at:])
            word = PROGRAM[at].split(" ")[0]
            for row in (PROGRAM[at].replace(word, word + "x"), " " + PROGRAM[at], PROGRAM[at].upper(), PROGRAM[at] + " ",
                        PROGRAM[at].replace(" ", "  ") + "  x", "", "leave"):
                self.wrong(at + 1, replaced(PROGRAM, at, row))
        self.wrong(7, PROGRAM[:6] + PROGRAM[7:])
        self.wrong(8, PROGRAM[:7] + ["end x"])
        self.wrong(8, PROGRAM[:7] + ["work 3", "end"])
        self.wrong(8, PROGRAM[:7] + INNER)
        # Of another proc there is no row files.
        self.wrong(len(PROGRAM) + 5, PROGRAM + ["proc p1 p0", "takes", "gives -", "names", "files", "work 0", "leave", "end"])

    def test_sequence_of_heads(self):
        self.wrong(2, [HEADS[2].replace("&(n,n) @g1", "").replace("  ", " ").replace("^l0", "n")] + HEADS[:2] + PROGRAM)
        self.wrong(2, ["needs q1 p0 takes gives c"] + ["layout l0 n"] + PROGRAM)
        self.wrong(len(PROGRAM) + 1, PROGRAM + ["layout l0 n"] + INNER)
        self.wrong(2, ["needs q1 p0 takes gives c", "signature g0 takes gives -"] + PROGRAM)

    def test_layouts(self):
        for row in (
                "layout", "layout l0", "layout l0 n n", "layout L0 n", "layout 0l n", "layout abcdefghi n", "layout l_ n", "layout  n",
                "layout l0 ", "layout l0  n", "layout l0 x", "layout l0 <n>", "layout l0 <text>", "layout l0 {(n)|()}", "layout l0 ()",
                "layout l0 ^l9", "layout l0 2001*n", "layout l0 0*n", "layout l0 01*n", "layout l0 (n,)", "layout l0 3*<n>",
                "layout l0 (<text>)", "layout l0 ({(n)},n)", "layout l0 N", "layout l0 -1*n", "layout - n"):
            self.wrong(1, [row] + PROGRAM)
        for row in ("layout abcdefgh 2000*n", "layout a (n)", "layout l0 ^l0", "layout layout ({(n)})", "layout p0 n", "layout n t"):
            self.right([row] + PROGRAM)
        self.wrong(2, ["layout a n", "layout a n"] + PROGRAM)
        many = ["layout l{} n".format(k) for k in range(25)]
        self.right(many[:24] + PROGRAM)
        self.wrong(25, many + PROGRAM)
        # A name may be told further down, whatever else is wrong there.
        self.right(["layout a ^b", "layout b n"] + PROGRAM)
        self.wrong(2, ["layout a ^b", "layout b x"] + PROGRAM)
        self.wrong(1, ["layout a ^b", "layout c n"] + PROGRAM)

    def test_signatures(self):
        for row in (
                "signature", "signature g0", "signature g0 takes", "signature g0 takes gives", "signature g0 gives -",
                "signature g0 takes gives x", "signature g0 takes gives (n)", "signature g0 takes gives - -", "signature g0 n gives -",
                "signature g0 takes <n> gives -", "signature g0 takes @g1 gives -", "signature g0 takes ^l0 gives -",
                "signature g0 takes gives ^l0", "signature g0 takes n  gives -", "signature G takes gives -", "signature g0 takes & gives -",
                "signature g0 takes &x gives -", "signature g0 takes @ gives -", "signature g0 takes gives &n", "signature g0 takes - gives -",
                "signature g0 takes n", "signature g0 takes gives gives -", "signature g0 takes {(n)} gives -", "signature g0 takes &() gives -",
                "signature g0 takes gives <text>", "signature g0 takes @g0@g0 gives -", "signature g0 takes &&n gives -"):
            self.wrong(1, [row] + PROGRAM)
        for row in (
                "signature g0 takes gives -", "signature g0 takes @g0 gives s", "signature g0 takes &<n> &<text> n t c s 3*n (n) gives n",
                "signature p0 takes gives c", "signature gives takes gives t"):
            self.right([row] + PROGRAM)
        forty = "signature g0 takes" + " n" * 40
        self.right([forty + " gives -"] + PROGRAM)
        self.wrong(1, [forty + " n gives -"] + PROGRAM)
        self.wrong(2, ["signature a takes gives -", "signature a takes gives -"] + PROGRAM)
        many = ["signature g{} takes gives -".format(k) for k in range(13)]
        self.right(many[:12] + PROGRAM)
        self.wrong(13, many + PROGRAM)
        self.right(["layout a n", "signature a takes @b gives ^a", "signature b takes gives -"] + PROGRAM)

    def test_needs(self):
        for row in (
                "needs", "needs q", "needs q p0", "needs q p0 takes gives", "needs q - takes gives -", "needs q p9 takes gives -",
                "needs q q takes gives -", "needs Q p0 takes gives -", "needs q p0 takes <n> gives -", "needs q p0 gives -",
                "needs q p0 takes gives x", "needs q p0  takes gives -"):
            self.wrong(1, [row] + PROGRAM)
        self.right(["needs q p1 takes n gives -"] + ALL[:4][:0] + PROGRAM + [row.replace(" @g0", "") for row in INNER])
        self.wrong(2, ["needs q p0 takes gives -", "needs q p0 takes gives -"] + PROGRAM)
        # A needed one is none of this text, and no other's OUTER.
        self.wrong(2, ["needs q p0 takes gives -", "needs r q takes gives -"] + PROGRAM)
        self.wrong(2, ["needs p0 p0 takes gives -"] + PROGRAM)
        rows = ["needs q p0 takes gives -"] + PROGRAM
        self.wrong(len(rows) + 1, rows + [row.replace("p1 p0", "q p0").replace(" @g0", "") for row in INNER])
        self.wrong(len(rows) + 1, rows + [row.replace("p1 p0", "p1 q").replace(" @g0", "") for row in INNER])
        many = ["needs q{} p0 takes gives -".format(k) for k in range(13)]
        self.right(many[:12] + PROGRAM)
        self.wrong(13, many + PROGRAM)
        forty = "needs q p0 takes" + " n" * 40
        self.right([forty + " gives -"] + PROGRAM)
        self.wrong(1, [forty + " n gives -"] + PROGRAM)

    def test_procs(self):
        plain = ["takes", "gives -", "names", "work 0", "leave", "end"]
        for row in ("proc p1", "proc p1 -", "proc p1 p1", "proc p1 p2", "proc p0 p0", "proc P1 p0", "proc p1 p0 p0", "proc  p0", "proc p1  p0"):
            self.wrong(len(PROGRAM) + 1, PROGRAM + [row] + plain + ["proc p2 p0"] + plain)
        for row in ("proc p0 p0", "proc p0 p1", "proc p0", "proc - -", "proc 0p -"):
            self.wrong(1, [row] + PROGRAM[1:])
        rows = list(PROGRAM)
        for level in range(1, 10):
            rows += ["proc p{} p{}".format(level, level - 1)] + plain
        unit = self.right(rows)
        self.assertEqual(unit.level("p9"), 9)
        self.assertEqual(unit.outer("p9"), "p8")
        self.wrong(len(rows) + 1, rows + ["proc p10 p9"] + plain)
        rows += ["proc p10 p3"] + plain + ["proc p11 p0"] + plain
        self.assertEqual(self.right(rows).level("p10"), 4)
        self.wrong(len(rows) + 1, rows + ["proc p12 p0"] + plain)

    def test_takes_gives_and_names(self):
        def inner(takes, gives, names):
            return PROGRAM + ["proc p1 p0", takes, gives, names, "work 0", "leave", "end"]

        begin = len(PROGRAM) + 2
        for takes in ("takes <text>", "takes @g0", "takes ^l0", "takes -", "takes n  t", "takes &", "takes x", "takes {(n)}", "takes &{(n)|()}"):
            self.wrong(begin, inner(takes, "gives -", "names"))
        for gives in ("gives", "gives n n", "gives (n)", "gives &n", "gives x", "gives ^l0", "gives <n>"):
            self.wrong(begin + 1, inner("takes", gives, "names n"))
        for names in ("names @g0", "names -", "names x", "names <<n>>", "names &", "names n ", "names ^l0", "names &@g0"):
            self.wrong(begin + 2, inner("takes", "gives -", names))
        for gives, names in (("gives n", "names"), ("gives n", "names t n"), ("gives n", "names &n"), ("gives c", "names n c")):
            self.wrong(begin + 2, inner("takes", gives, names))
        self.right(inner("takes n t &<n> &<text> 3*n", "gives s", "names s <n> <text> &<n> &3*c n"))
        self.right(inner("takes" + " n" * 40, "gives -", "names"))
        self.wrong(begin, inner("takes" + " n" * 41, "gives -", "names"))
        self.right(inner("takes" + " n" * 20, "gives -", "names" + " t" * 20))
        self.wrong(begin + 2, inner("takes" + " n" * 20, "gives -", "names" + " t" * 21))
        self.right(inner("takes" + " n" * 39, "gives n", "names n"))
        self.wrong(begin + 2, inner("takes" + " n" * 40, "gives n", "names n"))
        self.wrong(2, replaced(PROGRAM, 1, "takes n"))
        self.wrong(3, replaced(replaced(PROGRAM, 2, "gives n"), 3, "names n"))

    def test_files(self):
        def program(names, files):
            return replaced(replaced(PROGRAM, 3, names), 4, files)

        for names, files in (
                ("names <n> <text>", "files a b"), ("names <n> n", "files a"), ("names <n>", "files"), ("names <n> <n>", "files input"),
                ("names <text>", "files averylongname9")):
            self.right(program(names, files))
        for names, files in (
                ("names n", "files a"), ("names <n>", "files a b"), ("names <n> <n>", "files a a"), ("names &<n>", "files a"),
                ("names <n> n <n>", "files a b"), ("names <n>", "files A"), ("names <n>", "files 1a"), ("names <n>", "files "),
                ("names <n>", "files a_"), ("names", "files a"), ("names <n>", "files -")):
            self.wrong(5, program(names, files))

    def test_work_label_line(self):
        for row in ("work", "work -1", "work 100", "work 01", "work 1 1", "work x", "work +1", "work "):
            self.wrong(6, replaced(PROGRAM, 5, row))
        for row in ("work 0", "work 99"):
            self.right(replaced(PROGRAM, 5, row))
        for row in ("label", "label -1", "label 100", "label 01", "label 1 1", "label x", "label  1", "line", "line 0", "line 10000",
                    "line 01", "line 5 5", "line -3", "line 1 ", "line +1"):
            self.wrong(7, replaced(PROGRAM, 6, row))
        for row in ("label 0", "label 99", "line 1", "line 9999"):
            self.right(replaced(PROGRAM, 6, row))
        self.wrong(8, PROGRAM[:6] + ["label 3", "label 3", "end"])
        self.right(PROGRAM[:6] + ["label 3", "label 4", "end"])

    def test_rows_of_code(self):
        self.right(PROGRAM[:6] + ["leave"] * 200 + ["end"])
        self.wrong(207, PROGRAM[:6] + ["leave"] * 201 + ["end"])
        self.wrong(7, PROGRAM[:6] + ["end"])

    def test_rows_that_are_alike(self):
        # A row that was fine is fine further on, but for one label more, one row too many, another proc's labels.
        code, _ = self.code("jump 3", "num 1", "jump 3", "num 1", "line 4", "label 3", "line 4", "num 1")
        unit = self.right(code)
        self.assertEqual(unit.code("p0"), ("jump 3", "num 1", "jump 3", "num 1", "line 4", "label 3", "line 4", "num 1"))
        code, number = self.code("label 3", "jump 3", "jump 3", "label 3")
        self.wrong(number + 3, code)
        code, number = self.code("jump 3", "label 3", "jump 3")
        self.wrong(len(code) - 1, code[:-len(INNER)] + replaced(INNER, 5, "jump 3"))
        code, number = self.code(*["num 1"] * 200)
        self.right(code)
        code, number = self.code(*["num 1"] * 201)
        self.wrong(number + 200, code)
        code, number = self.code(*["num 1"] * 200, "nonsense")
        self.wrong(number + 200, code)
        code, number = self.code(*["num 1"] * 199, "nonsense", "num 1", "num 1")
        self.wrong(number + 199, code)
        code, number = self.code("num 1", "num 01", "num 1")
        self.wrong(number + 1, code)
        for last in ("end ", "end num 1", "end end"):
            rows = PROGRAM[:6] + ["num 1", "num 1", last]
            self.wrong(9, rows)
        self.wrong(9, PROGRAM[:6] + ["num 1", "num 1"])
        self.wrong(7, PROGRAM[:6])

    def test_orders_in_right_forms(self):
        rows = [
            "num {}".format(MAX), "num -{}".format(MAX), "num 0", "num -1", "truth 0", "truth 1", "sign 32", "sign 126", "set", "set 0",
            "set 0 1 127", "set " + " ".join(map(str, range(128))), "nil l0", "string 32", "string" + " 126" * 255, "place 0 0",
            "place {} {}".format(MAX, MAX), "handed 0 1", "bind 3", "field 0", "field {}".format(MAX), "arm 0", "become 7", "lives 0",
            "lives 3 -5 0 7 1", "lives 1" + "".join(" {} 0".format(k) for k in range(32)), "index 1 3", "index -{} {}".format(MAX, MAX),
            "index 0 0", "aim", "window", "load", "store", "move", "unset", "drop", "dup", "look 1 1", "look -5 3", "within 0 127",
            "within -9 900", "add", "sub", "mul", "div", "mod", "neg", "abs", "sqr", "odd", "ordt", "ordc", "chr", "tru", "and", "or", "not",
            "eq", "ne", "lt", "le", "gt", "ge", "same", "unlike", "seq", "sne", "inside", "around", "one", "span", "join", "meet", "less",
            "in", "text eq", "text ne", "text lt", "text le", "text gt", "text ge", "jump 7", "unless 7", "table 0 7", "table -3 7 - 7",
            "table {} 7 7".format(MAX), "table 1" + " 7" * 64, "table 1 -", "call p1", "call p0", "call q1", "callh g0", "hand p1 g1",
            "hand q1 g0", "leave", "far 1 0", "far {} 99".format(MAX), "new", "gone", "reset", "rewrite", "get", "put", "eof", "eoln",
            "readn", "readc", "readln", "writeln", "writen", "writet", "writec", "writes", "line 1"]
        words = (
            "unset stretch index member beyond nought below case arm nil gone full deep file end figures width")
        for row in rows + ["trap " + word for word in words.split(" ")]:
            unit = self.right(self.code(row, "label 7")[0])
            self.assertEqual(unit.code("p0"), (row, "label 7"))

    def test_orders_in_wrong_forms(self):
        rows = [
            "num", "num 1 1", "num {}".format(MAX + 1), "num -{}".format(MAX + 1), "num 01", "num -0", "num +1", "num 1.0", "num x", "num ",
            "num  1", " num 1", "num 1 ", "num 99999999999", "num --1", "num -", "truth", "truth 2", "truth -1", "truth true", "truth 1 1",
            "sign 31", "sign 127", "sign", "sign 65 66", "sign a", "set -1", "set 128", "set 1 1", "set 2 1", "set 01", "set 1  2", "set ",
            "nil", "nil l2", "nil l0 l1", "nil g0", "string", "string 31", "string 127", "string" + " 65" * 256, "string 65 x", "place",
            "place 0", "place -1 0", "place 0 -1", "place 0 0 0", "place 00 0", "handed 1", "handed -1 1", "handed 0 x", "bind", "bind -1",
            "bind 1 1", "field", "field -1", "field 1 1", "arm", "arm -1", "arm 0 0", "become", "become -1", "become 1 1", "lives",
            "lives -1", "lives 0 1", "lives 0 1 0 1", "lives 0 1 0 1 0", "lives 0 2 0 1 0", "lives 0 1 -1", "lives x",
            "lives 1" + "".join(" {} 0".format(k) for k in range(33)), "index", "index 1", "index 2 1", "index 1 2 3", "index 01 2",
            "index 0 {}".format(MAX + 1), "look", "look 1", "look 2 1", "look 1 2 3", "within", "within 5", "within 2 1", "aim 1",
            "window 0", "load 1", "store n", "move x", "unset 1", "drop 1", "dup 2", "add 1", "neg 0", "and t", "eq n", "same x", "seq s",
            "one 1", "span 1 2", "join s", "in s", "text", "text eq eq", "text same", "text x", "jump", "jump 8", "jump 7 7", "jump 100",
            "jump -1", "jump 07", "unless", "unless 8", "table", "table 0", "table x 7", "table 0 8", "table 0 x", "table 01 7",
            "table 1" + " 7" * 65, "table 0 7 --", "table - 7", "call", "call p2", "call l0", "call p1 p1", "callh", "callh g2", "callh p1",
            "callh g0 g0", "hand", "hand p1", "hand g0 p1", "hand p1 g2", "hand p2 g0", "hand p1 g0 g0", "leave 1", "far", "far 0 1",
            "far 1", "far 1 100", "far -1 0", "far 1 -1", "far 1 2 3", "far x 1", "new n", "gone 1", "reset 1", "rewrite x", "get 1",
            "put 1", "eof 1", "eoln 1", "readn 1", "readc 1", "readln 1", "writeln 1", "writen 1", "writet 1", "writec 1", "writes 1", "trap",
            "trap x", "trap trap", "trap nil nil", "trap Case", "ADD", "Leave", "adds", "", " ", "-", "layout l9 n", "takes", "gives -",
            "names", "files", "work 1", "proc p9 p0", "needs q p0 takes gives -", "signature g9 takes gives -"]
        for row in rows:
            code, number = self.code("drop", row, "label 7")
            self.wrong(number + 1, code)

    def test_labels_are_told_by_the_own_code(self):
        code, number = self.code("jump 3", "leave", "label 3")
        self.right(code)
        code, number = self.code("jump 3", "leave")
        self.wrong(number, code[:-len(INNER)] + replaced(INNER, 5, "label 3"))
        # Whatever else is wrong with the row that tells it, up to the next row end or proc.
        code, number = self.code("jump 3", "nonsense", "label 3 5")
        self.wrong(number + 1, code)
        code, number = self.code("jump 3", "end", "label 3")
        self.wrong(number, code)
        code, number = self.code("jump 3", "proc p9 p0", "label 3")
        self.wrong(number, code)
        code, number = self.code("far 1 50")
        self.right(code)

    def test_names_that_wrong_rows_tell(self):
        code, number = self.code("call p1")
        self.wrong(len(code) - len(INNER) + 1, [row.replace("proc p1 p0", "proc p1 p9") for row in code])
        code, number = self.code("call p7")
        self.wrong(len(code) + 1, code + ["proc p7"])
        self.wrong(number, code + ["xproc p7 p0"])

    def test_unit_of_many_things_wrong(self):
        rows = replaced(replaced(ALL, 7, "gives n"), 9, "files a")
        self.wrong(8, rows)


class CellsTest(Refusing, unittest.TestCase):
    def test_how_many(self):
        for layout, many in (
                ("n", 1), ("t", 1), ("c", 1), ("s", 1), ("^a", 1), ("^abcdefgh", 1), ("<text>", 1), ("<n>", 1), ("<2000*n>", 1), ("2000*n", 2000),
                ("1*n", 1), ("40*50*c", 2000), ("(n)", 1), ("(n,t,c,s)", 4), ("(n,(c,c),3*n)", 6), ("(n,{()|()})", 1), ("({(n)|()})", 1),
                ("(n,{(n,n)|(c)|()})", 3), ("(" + ",".join("n" * 12) + ")", 12), ("({" + "|".join(["(n)"] * 8) + "})", 1),
                ("(1000*n,{(1000*n)|()})", 2000), ("({({({(n,n)|()})|(n)})|()})", 2), ("10*(n,{(3*c)|()})", 40), ("<(n,{()|(c)})>", 1),
                ("1*" * 40 + "n", 1), ("(" * 40 + "n" + ")" * 40, 1)):
            self.assertEqual(cells_of(layout), many, layout)

    def test_what_is_no_layout(self):
        for layout in (
                None, 0, True, (), ["n"], {}, "", " ", "n ", " n", "N", "x", "nn", "n,n", "^", "^A", "^1a", "^abcdefghi", "^a^b", "0*n", "2001*n",
                "2000*2*n", "01*n", "-1*n", "1*", "*n", "1 * n", "1*2", "()", "(", ")", "(n", "n)", "(n,)", "(,n)", "(n;n)", "(n, n)",
                "(" + ",".join("n" * 13) + ")", "{(n)|()}", "{}", "({})", "({n})", "({(n)},n)", "(n,{(n)|})", "({()|()})", "(n,{({()})|()})",
                "({" + "|".join(["(n)"] * 9) + "})", "({" + "|".join(["(n)"] * 8) + "|()})", "<>", "<<n>>", "<text", "text", "<TEXT>", "<()>",
                "<{(n)}>", "3*<n>", "(<n>)", "(n,{(<n>)})", "3*{(n)}", "3*()", "(2000*n,n)", "(1000*n,{(1001*n)|()})", "2*1001*n",
                "99999999999*n", "((n)", "(n))", "<n>>", "^a b", "(n)(n)", "n|n", "@g0", "&n", "-", "1000*(n,n,n)"):
            self.refused(BadLayout, layout, cells_of, layout)


if __name__ == "__main__":
    unittest.main()
