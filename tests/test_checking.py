"""Checking codes (section 16)."""

import unittest

from begunended.checking import checked, led, never_come, shows_checked
from begunended.depths import calls, frames_needed, least_work, never_called, shows_frames_needed, shows_work_needed, work_needed
from begunended.errors import BadShape, NoProc, NoRow, NotLet, NotWhole
from begunended.units import Unit
from tests.common import Refusing
from tests.test_joining import proc, program, unit

HEADS = (
    "layout l0 (n,^l0)", "layout l1 c", "signature g0 takes n &t gives c", "signature g1 takes gives -", "signature g2 takes n &t gives c",
    "signature g3 takes 3*n @g1 ^l0 gives -", "signature g4 takes n &t gives -", "signature g5 takes n t gives c")
NAMES = " n t c s ^l0 3*n 2*c (n,{(c)|()|(t,n)}) <text> <2*c> <n> &(n) ({(n)|()})"
SHAPE_OK = ("n",)


def machine(*code):
    """A unit whose inner proc p1 has this code; label 7 stands behind it."""
    return unit(
        *HEADS, program("p0", "leave", names=" n <text>"),
        proc("p1", "p0", *code, "label 7", "leave", takes=" n @g0 &(n)", gives="n", names=" n" + NAMES, work=20),
        proc("p2", "p1", "label 4", "leave", takes=" n &t", gives="c", work=3), proc("p3", "p0", "label 5", "leave", work=3),
        proc("p4", "p2", "leave", work=3), proc("p5", "p1", "leave", takes=" 3*n @g1 ^l0", work=3))


class LedTest(Refusing, unittest.TestCase):
    def to(self, row, given, left, *rows):
        """A row leads from what lies there to the next row, or to the rows that are told."""
        one = machine(row)
        for ahead in ((), ("c", "@g1")):
            wanted = tuple((number, ahead + left) for number in rows or (1,))
            self.assertEqual(led(one, "p1", 0, ahead + given), ("to", wanted), row)
        if given:
            self.assertEqual(led(one, "p1", 0, given[1:]), ("refused", "short"), row)
            self.assertEqual(led(one, "p1", 0, ()), ("refused", "short"), row)
            for at in range(len(given)):
                if row not in ("drop", "dup"):
                    wrong = given[:at] + ("@g3",) + given[at + 1:]
                    self.assertEqual(led(one, "p1", 0, wrong), ("refused", "sort"), row)

    def no(self, word, row, given=()):
        self.assertEqual(led(machine(row), "p1", 0, given), ("refused", word), (row, given))

    def test_example_of_the_document(self):
        one = Unit(
            "layout l0 (n,^l0)\nproc p0 -\ntakes\ngives -\nnames ^l0 n\nfiles\nwork 2\nline 1\nplace 0 0\nnew\n"
            "place 0 1\nnum 7\nstore\nleave\nend")
        self.assertEqual(checked(one)[1][2:6], (
            ("p0", 2, ("a[^l0]",)), ("p0", 3, ()), ("p0", 4, ("a[n]",)), ("p0", 5, ("a[n]", "n"))))
        self.assertEqual([led(one, "p0", 5, shape) for shape in (("a[n]", "n"), ("n", "n"), ("n",))] + [led(one, "p0", 4, ("n", "n"))], [
            ("to", ((6, ()),)), ("refused", "sort"), ("refused", "short"), ("refused", "work")])
        self.assertEqual(checked(Unit(one.text.replace("store", "drop"))), ("refused", "p0", (0, 1, 2, 3, 4, 5, 6), "left"))
        self.assertEqual(work_needed(one, "p0"), (2, (0, 1, 2, 3, 4, 5)))
        self.assertEqual(frames_needed(one), ("most", 1, ("p0",)))

    def test_told_values(self):
        for row, sort in (("num -5", "n"), ("truth 0", "t"), ("sign 65", "c"), ("set", "s"), ("set 1 2", "s"), ("nil l0", "^l0"), ("nil l1", "^l1"),
                          ("string 65", "a[1*c]"), ("string 65 66 67", "a[3*c]")):
            self.to(row, (), (sort,))

    def test_things(self):
        sorts = ["n", None, "(n)", "n"] + [word.lstrip("&") for word in NAMES.split()]
        for number, sort in enumerate(sorts):
            if sort is not None:
                self.to("place 0 {}".format(number), (), ("a[" + sort + "]",))
                self.no("link", "handed 0 {}".format(number))
        self.to("handed 0 1", (), ("@g0",))
        self.to("place 1 0", (), ("a[n]",))
        self.to("place 1 1", (), ("a[<text>]",))
        for row in ("place 0 1", "place 0 17", "place 1 2", "place 2 0", "handed 0 17", "handed 1 0", "handed 2 0", "place 2147483647 0",
                    "place 0 2147483647"):
            self.no("link", row)
        self.to("bind 15", ("a[(n)]",), ())
        for row in ("bind 0", "bind 1", "bind 2", "bind 3", "bind 14", "bind 17", "bind 2147483647"):
            self.no("link", row, ("a[(n)]",))
        self.no("sort", "bind 15", ("a[n]",))
        self.no("sort", "bind 15", ("n",))

    def test_parts_of_places(self):
        record = "a[(n,{(c)|()|(t,n)})]"
        self.to("field 0", (record,), ("a[n]",))
        self.to("field 1", (record,), ("a[{(c)|()|(t,n)}]",))
        self.no("sort", "field 2", (record,))
        self.no("sort", "field 0", ("a[{(c)|()|(t,n)}]",))
        self.no("sort", "field 0", ("a[3*n]",))
        self.to("arm 0", ("a[{(c)|()|(t,n)}]",), ("a[(c)]",))
        self.to("arm 2", ("a[{(c)|()|(t,n)}]",), ("a[(t,n)]",))
        self.no("sort", "arm 1", ("a[{(c)|()|(t,n)}]",))
        self.no("sort", "arm 3", ("a[{(c)|()|(t,n)}]",))
        self.no("sort", "arm 0", (record,))
        for arm in (0, 1, 2):
            self.to("become {}".format(arm), ("a[{(c)|()|(t,n)}]",), ())
        self.no("sort", "become 3", ("a[{(c)|()|(t,n)}]",))
        self.no("sort", "become 0", (record,))
        self.to("lives 2", (record, "n"), ())
        self.to("lives 1 -5 0 7 2", (record, "n"), ())
        for row in ("lives 3", "lives 0 5 3"):
            self.no("sort", row, (record, "n"))
        self.no("sort", "lives 0", ("a[(n)]", "n"))
        self.no("sort", "lives 0", ("a[{(c)|()|(t,n)}]", "n"))
        self.no("sort", "lives 0", (record, "t"))
        self.to("index 1 3", ("a[3*n]", "n"), ("a[n]",))
        self.to("index -1 1", ("a[3*2*c]", "n"), ("a[2*c]",))
        for row in ("index 1 2", "index 1 4", "index -2147483647 2147483647"):
            self.no("sort", row, ("a[3*n]", "n"))
        self.no("sort", "index 1 3", ("a[(n,n,n)]", "n"))
        self.no("sort", "index 1 3", ("a[3*n]", "t"))

    def test_pointers_and_windows(self):
        self.to("aim", ("^l0",), ("a[(n,^l0)]",))
        self.to("aim", ("^l1",), ("a[c]",))
        self.no("sort", "aim", ("a[^l0]",))
        self.no("sort", "aim", ("n",))
        self.to("window", ("a[<text>]",), ("a[c]",))
        self.to("window", ("a[<(n,^l0)>]",), ("a[(n,^l0)]",))
        self.no("sort", "window", ("a[c]",))
        self.to("new", ("a[^l0]",), ())
        self.no("sort", "new", ("^l0",))
        self.no("sort", "new", ("a[n]",))
        self.to("gone", ("^l0",), ())
        self.no("sort", "gone", ("a[^l0]",))

    def test_load_store_move(self):
        for sort in ("n", "t", "c", "s", "^l0"):
            self.to("load", ("a[" + sort + "]",), (sort,))
            self.to("store", ("a[" + sort + "]", sort), ())
        for sort in ("a[3*n]", "a[(n)]", "a[<n>]", "a[{(n)|()}]", "n"):
            self.no("sort", "load", (sort,))
        self.no("sort", "store", ("a[n]", "t"))
        self.no("sort", "store", ("a[^l0]", "^l1"))
        self.no("sort", "store", ("a[(n)]", "a[(n)]"))
        self.no("sort", "store", ("n", "a[n]"))
        for sort in ("a[n]", "a[3*n]", "a[(n,{(n)|()})]", "a[{(n)|()}]", "a[^l0]"):
            self.to("move", (sort, sort), ())
            self.to("unset", (sort,), ())
        for sort in ("a[<text>]", "a[<n>]", "n", "@g0"):
            self.no("sort", "move", (sort, sort))
            self.no("sort", "unset", (sort,))
        self.no("sort", "move", ("a[3*n]", "a[3*t]"))
        for sort in ("n", "^l0", "a[<text>]", "a[{(n)|()}]"):
            self.to("dup", (sort,), (sort, sort))
            self.to("drop", (sort,), ())
        self.to("drop", ("@g0",), ())
        self.no("sort", "dup", ("@g0",))

    def test_orders_over_values(self):
        rows = (
            ("look 1 2", "n", "n"), ("within 1 2", "s", "s"), ("add", "n n", "n"), ("sub", "n n", "n"), ("mul", "n n", "n"), ("div", "n n", "n"),
            ("mod", "n n", "n"), ("neg", "n", "n"), ("abs", "n", "n"), ("sqr", "n", "n"), ("odd", "n", "t"), ("ordt", "t", "n"), ("ordc", "c", "n"),
            ("chr", "n", "c"), ("tru", "n", "t"), ("and", "t t", "t"), ("or", "t t", "t"), ("not", "t", "t"), ("same", "^l0 ^l0", "t"),
            ("unlike", "^l1 ^l1", "t"), ("seq", "s s", "t"), ("sne", "s s", "t"), ("inside", "s s", "t"), ("around", "s s", "t"), ("one", "n", "s"),
            ("span", "n n", "s"), ("join", "s s", "s"), ("meet", "s s", "s"), ("less", "s s", "s"), ("in", "n s", "t"),
            ("text eq", "a[2*c] a[2*c]", "t"), ("text lt", "a[300*c] a[300*c]", "t"))
        for row, given, left in rows:
            self.to(row, tuple(given.split()), (left,))
        for word in ("eq", "ne", "lt", "le", "gt", "ge"):
            for sort in ("n", "t", "c"):
                self.to(word, (sort, sort), ("t",))
            for one, other in (("n", "t"), ("s", "s"), ("^l0", "^l0"), ("a[n]", "a[n]")):
                self.no("sort", word, (one, other))
        self.no("sort", "same", ("^l0", "^l1"))
        self.no("sort", "same", ("n", "n"))
        self.no("sort", "text eq", ("a[2*c]", "a[3*c]"))
        self.no("sort", "text eq", ("a[2*n]", "a[2*n]"))
        self.no("sort", "text eq", ("a[c]", "a[c]"))
        self.no("sort", "in", ("s", "n"))
        self.no("sort", "ordt", ("c",))

    def test_files(self):
        for row in ("reset", "rewrite", "get", "put"):
            for sort in ("a[<text>]", "a[<n>]"):
                self.to(row, (sort,), ())
            self.no("sort", row, ("a[c]",))
        self.to("eof", ("a[<n>]",), ("t",))
        self.to("eof", ("a[<text>]",), ("t",))
        for row, left in (("eoln", ("t",)), ("readn", ("n",)), ("readc", ("c",)), ("readln", ()), ("writeln", ())):
            self.to(row, ("a[<text>]",), left)
            self.no("sort", row, ("a[<c>]",))
        for row, sort in (("writen", "n"), ("writet", "t"), ("writec", "c"), ("writes", "a[3*c]"), ("writes", "a[255*c]"), ("writes", "a[1*c]")):
            self.to(row, ("a[<text>]", sort, "n"), ())
            self.no("sort", row, ("a[<c>]", sort, "n"))
            self.no("sort", row, ("a[<text>]", sort, "t"))
        self.no("sort", "writes", ("a[<text>]", "a[256*c]", "n"))
        self.no("sort", "writes", ("a[<text>]", "c", "n"))

    def test_ways(self):
        self.to("jump 7", (), (), 1)
        self.to("unless 7", ("t",), (), 1)
        self.assertEqual(led(machine("label 3", "drop", "unless 3"), "p1", 2, ("t",)), ("to", ((0, ()), (3, ()))))
        self.assertEqual(led(machine("label 3", "table 0 3 7 - 3"), "p1", 1, ("n",)), ("to", ((0, ()), (2, ()))))
        self.assertEqual(led(machine("table 0 - -"), "p1", 0, ("n",)), ("to", ()))
        for row in ("leave", "trap case", "far 1 3"):
            one = unit(*HEADS, program("p0", "label 3", "leave"), proc("p1", "p0", row, work=3))
            self.assertEqual(led(one, "p1", 0, ()), ("to", ()))
            self.assertEqual(led(one, "p1", 0, ("n",)), ("refused", "left") if row == "leave" else ("to", ()))
        for row in ("label 3", "line 5"):
            self.to(row, (), ())
            self.assertEqual(led(machine(row), "p1", 0, ("n", "@g1")), ("to", ((1, ("n", "@g1")),)))

    def test_calls(self):
        self.to("call p2", ("n", "a[t]"), ("c",))
        self.to("call p1", ("n", "@g0", "a[(n)]"), ("n",))
        self.to("call p3", (), ())
        self.to("call p5", ("a[3*n]", "@g1", "^l0"), ())
        self.to("callh g0", ("@g0", "n", "a[t]"), ("c",))
        self.to("callh g1", ("@g1",), ())
        self.no("sort", "callh g0", ("@g2", "n", "a[t]"))
        self.to("hand p2 g0", (), ("@g0",))
        self.to("hand p2 g2", (), ("@g2",))
        self.to("hand p3 g1", (), ("@g1",))
        self.to("hand p5 g3", (), ("@g3",))
        self.no("sort", "hand p2 g1")
        self.no("sort", "hand p3 g0")
        self.no("sort", "hand p2 g4")
        self.no("sort", "hand p2 g5")
        self.no("sort", "hand p1 g0")
        for row in ("call p0", "call p4", "hand p0 g1", "hand p4 g1", "far 2 3", "far 1 3", "far 2147483647 0"):
            self.no("link", row)
        one = machine()
        self.assertEqual(led(Unit(one.text.replace("label 4", "far 1 7")), "p2", 0, ()), ("to", ()))
        self.assertEqual(led(Unit(one.text.replace("label 4", "far 1 5")), "p2", 0, ()), ("refused", "link"))

    def test_which_word_comes_first(self):
        one = unit(program("p0", "place 0 9", "store", "leave", "num 1", "add", work=1))
        self.assertEqual(led(one, "p0", 0, ("n", "n")), ("refused", "link"))
        self.assertEqual(led(one, "p0", 1, ("n",)), ("refused", "short"))
        self.assertEqual(led(one, "p0", 1, ("n", "n")), ("refused", "sort"))
        self.assertEqual(led(one, "p0", 2, ("n", "n")), ("refused", "left"))
        self.assertEqual(led(one, "p0", 3, ("n",)), ("refused", "work"))
        self.assertEqual(led(one, "p0", 4, ("n", "n", "n")), ("refused", "work"))
        self.assertEqual(led(one, "p0", 4, ("n", "n")), ("refused", "end"))
        call = unit(program("p0", "call p0", "leave"))
        self.assertEqual(led(call, "p0", 0, ()), ("refused", "link"))

    def test_work(self):
        one = unit(program("p0", "label 1", "num 1", "jump 1", "trap case", "drop", "leave", "unless 1", work=2))
        self.assertEqual(led(one, "p0", 0, ("n", "n")), ("to", ((1, ("n", "n")),)))
        self.assertEqual(led(one, "p0", 0, ("n", "n", "n")), ("refused", "work"))
        self.assertEqual(led(one, "p0", 1, ("n",)), ("to", ((2, ("n", "n")),)))
        self.assertEqual(led(one, "p0", 1, ("n", "n")), ("refused", "work"))
        self.assertEqual(led(one, "p0", 2, ("n",) * 3), ("refused", "work"))
        self.assertEqual(led(one, "p0", 3, ("n",) * 2), ("to", ()))
        self.assertEqual(led(one, "p0", 3, ("n",) * 3), ("refused", "work"))
        self.assertEqual(led(one, "p0", 4, ("n",) * 3), ("to", ((5, ("n",) * 2),)))
        self.assertEqual(led(one, "p0", 6, ("t",)), ("refused", "end"))
        far = unit(program("p0", "label 3", "leave"), proc("p1", "p0", "far 1 3", work=1))
        self.assertEqual(led(far, "p1", 0, ("n", "n")), ("refused", "work"))
        self.assertEqual(led(far, "p1", 0, ("n",)), ("to", ()))

    def test_errors(self):
        one = machine("add")
        for name in (None, "p9", 1, "", ["p0"], "g0"):
            self.refused(NoProc, name, led, one, name, None, None)
        for row in (-1, 3, True, None, "0", (0,), [0]):
            self.refused(NoRow, row, led, one, "p1", row, None)
        for shape in (
                None, "n", ["n"], ("x",), ("N",), (1,), (None,), ("^l9",), ("^",), ("@",), ("@g9",), ("@l0",), ("a[]",), ("a[x]",), ("a[^l9]",),
                ("a[n",), ("an]",), ("3*n",), ("(n)",), ("<text>",), ("a[()]",), ("a[{}]",), ("a[({()|()})]",), ("a[2001*n]",), ("-",), ("&n",),
                ("a[&n]",), ("a[@g0]",), ("a[{(^l9)|()}]",), (("n",),), ("n", True), ("a[a[n]]",), ("n ",), ("",), {"n": 1}, ("a[<^l9>]",)):
            self.refused(BadShape, shape, led, one, "p1", 0, shape)
        for shape in (("a[{(^l0)|()}]",), ("a[{()|()}]",), ("a[<^l0>]",), ("a[2000*n]",), ("@g3", "^l1")):
            self.assertIn(led(one, "p1", 0, shape)[0], ("refused",))
        needy = unit("needs q p0 takes gives -", "needs r p0 takes gives -", program("p0", "leave"))
        for function, given in (
                (led, ("p9", None, None)), (checked, ()), (shows_checked, (None,)), (never_come, ()), (work_needed, ("p9",)),
                (shows_work_needed, ("p9", None)), (least_work, ()), (calls, ()), (never_called, ()), (frames_needed, ()),
                (shows_frames_needed, (None,))):
            self.refused(NotWhole, ("q", "r"), function, needy, *given)


class CheckedTest(Refusing, unittest.TestCase):
    def test_units_that_are_let(self):
        one = unit(program("p0", "truth 1", "unless 2", "num 1", "drop", "jump 2", "num 3", "label 2", "leave", "num 9"))
        told = checked(one)
        self.assertEqual(told, ("let", (
            ("p0", 0, ()), ("p0", 1, ("t",)), ("p0", 2, ()), ("p0", 3, ("n",)), ("p0", 4, ()), ("p0", 6, ()), ("p0", 7, ()))))
        self.assertIs(shows_checked(one, told), True)
        for wrong in (
                ("let", told[1][:-1]), ("let", told[1] + (("p0", 8, ()),)), ("let", told[1][::-1]), ("let", list(told[1])), ("let",), "let", None,
                ("let", told[1], ()), ("Let", told[1]), ("let", tuple(("p0", row, shape) for _, row, shape in told[1][:3]) + told[1][4:]),
                ("let", (("p0", False, ()),) + told[1][1:]), ("let", (("p0", 0, []),) + told[1][1:]), [told], {}, (), 0,
                ("refused", "p0", (0,), "left"), ("unlike", "p0", (0,), (0,))):
            self.assertIs(shows_checked(one, wrong), False, wrong)

    def test_all_procs_are_looked_at(self):
        one = unit(program("p0", "leave"), proc("a", "p0", "num 1", "leave"))
        self.assertEqual(checked(one), ("refused", "a", (0, 1), "left"))
        one = unit(program("p0", "leave"), proc("a", "p0", "leave"))
        self.assertEqual(checked(one), ("let", (("p0", 0, ()), ("a", 0, ()))))

    def test_refused(self):
        one = unit(program("p0", "truth 1", "unless 5", "add", "label 5", "num 1", "leave"))
        self.assertIn(checked(one), (("refused", "p0", (0, 1, 2), "short"), ("refused", "p0", (0, 1, 3, 4, 5), "left")))
        self.assertIs(shows_checked(one, checked(one)), True)
        for value, is_right in (
                (("refused", "p0", (0, 1, 2), "short"), True), (("refused", "p0", (0, 1, 3, 4, 5), "left"), True),
                (("refused", "p0", (0, 1, 2), "sort"), False), (("refused", "p0", (0, 1), "short"), False),
                (("refused", "p0", (0, 1, 3), "short"), False), (("refused", "p0", (1, 2), "short"), False), (("refused", "p0", (2,), "short"), False),
                (("refused", "p0", (0, 2), "short"), False), (("refused", "p0", (), "short"), False), (("refused", "p0", [0, 1, 2], "short"), False),
                (("refused", "p0", (0, True, 2), "short"), False), (("refused", "p1", (0, 1, 2), "short"), False),
                (("refused", "p0", (0, 1, 2, 3), "short"), False), (("refused", "p0", (0, 1, 2), None), False),
                (("refused", "p0", (0, 1, 2)), False), (("refused", 0, (0, 1, 2), "short"), False), (("refused", "p0", (0, 1, 6), "short"), False),
                (("refused", "p0", (0, 1, -1), "short"), False), (("refused", "p0", (0, 1, "2"), "short"), False),
                (("refused", ["p0"], (0, 1, 2), "short"), False), (("refused", "p0", None, "short"), False),
                (("refused", "p0", (0, 1, 2), "short", 1), False), (("let", ()), False)):
            self.assertIs(shows_checked(one, value), is_right, value)

    def test_unlike(self):
        one = unit(program("p0", "truth 1", "unless 5", "num 1", "label 5", "drop", "leave"))
        told = checked(one)
        self.assertIn(told[0], ("unlike", "refused"))
        self.assertIs(shows_checked(one, told), True)
        one = unit(program("p0", "truth 1", "unless 5", "num 1", "jump 6", "label 5", "sign 65", "label 6", "drop", "leave"))
        told = checked(one)
        self.assertEqual(told[:2], ("unlike", "p0"))
        self.assertEqual(sorted(told[2:]), [(0, 1, 2, 3, 6), (0, 1, 4, 5, 6)])
        ways = [(0, 1, 2, 3, 6), (0, 1, 4, 5, 6), (0, 1, 2, 3, 6, 7), (0, 1, 4, 5, 6, 7), (0, 1, 4, 5)]
        for left in ways:
            for right in ways:
                is_right = {left, right} in ({ways[0], ways[1]}, {ways[2], ways[3]})
                self.assertIs(shows_checked(one, ("unlike", "p0", left, right)), is_right, (left, right))
        # Behind the drop both are alike.
        self.assertIs(shows_checked(one, ("unlike", "p0", (0, 1, 2, 3, 6, 7, 8), (0, 1, 4, 5, 6, 7, 8))), False)

    def test_ways_that_go_round(self):
        one = unit(program("p0", "label 1", "num 1", "jump 1", work=4))
        told = checked(one)
        self.assertIs(shows_checked(one, told), True)
        round_ = (0, 1, 2)
        self.assertIs(shows_checked(one, ("unlike", "p0", (0,), round_ + (0,))), True)
        self.assertIs(shows_checked(one, ("unlike", "p0", round_ + (0,), round_ * 2 + (0,))), True)
        self.assertIs(shows_checked(one, ("refused", "p0", round_ * 4 + (0, 1), "work")), True)
        self.assertIs(shows_checked(one, ("refused", "p0", round_ * 3 + (0, 1), "work")), False)
        fine = unit(program("p0", "label 1", "num 1", "drop", "jump 1"))
        self.assertEqual(checked(fine)[0], "let")
        self.assertEqual(len(checked(fine)[1]), 4)

    def test_end(self):
        one = unit(program("p0", "num 1", "drop"))
        self.assertEqual(checked(one), ("refused", "p0", (0, 1), "end"))
        self.assertEqual(checked(unit(program("p0", "truth 1", "unless 3", "leave", "label 3")))[3], "end")

    def test_entries_by_far(self):
        inner = proc("a", "p0", "label 1", "jump 1", "far 1 5", "leave")
        one = unit(program("p0", "leave", "num 1", "label 5", "drop", "leave"), inner)
        # The row far is never come to, its label is an entry all the same.
        self.assertEqual(checked(one), ("refused", "p0", (2, 3), "short"))
        fine = unit(program("p0", "leave", "num 1", "label 5", "leave"), inner)
        self.assertEqual(checked(fine), ("let", (
            ("p0", 0, ()), ("p0", 2, ()), ("p0", 3, ()), ("a", 0, ()), ("a", 1, ()))))
        # What comes to an entry with something on the workspace is unlike.
        one = unit(program("p0", "num 1", "label 5", "leave"), inner)
        self.assertEqual(checked(one)[0], "unlike")
        self.assertEqual(sorted(checked(one)[2:]), [(0, 1), (1,)])
        self.assertIs(shows_checked(one, ("refused", "p0", (0, 1, 2), "left")), True)
        # A far that leads nowhere names none.
        one = unit(program("p0", "leave", "label 5", "drop", "leave"), proc("a", "p0", "leave", "far 2 5", "far 1 6"))
        self.assertEqual(checked(one), ("let", (("p0", 0, ()), ("a", 0, ()))))
        # Deeper ones count, too.
        one = unit(
            program("p0", "leave", "label 5", "drop", "leave"), proc("a", "p0", "leave"), proc("b", "a", "leave", "far 2 5"))
        self.assertEqual(checked(one), ("refused", "p0", (1, 2), "short"))

    def test_far_refused_by_link(self):
        one = unit(program("p0", "leave"), proc("a", "p0", "far 1 5"))
        self.assertEqual(checked(one), ("refused", "a", (0,), "link"))

    def test_never_come(self):
        one = unit(program("p0", "jump 2", "num 1", "line 4", "label 1", "drop", "label 2", "leave", "line 9", "add"),
                   proc("a", "p0", "leave", "leave"))
        self.assertEqual(never_come(one), (("p0", 1), ("p0", 4), ("p0", 8), ("a", 1)))
        bad = unit(program("p0", "drop", "leave"))
        for function, given in (
                (never_come, ()), (work_needed, ("p0",)), (shows_work_needed, ("p0", None)), (least_work, ()), (calls, ()), (never_called, ()),
                (frames_needed, ()), (shows_frames_needed, (None,))):
            self.refused(NotLet, ("refused", "p0", (0,), "short"), function, bad, *given)


class DepthsTest(Refusing, unittest.TestCase):
    def test_work_needed(self):
        one = unit(
            program("p0", "num 1", "num 2", "add", "num 3", "num 4", "drop", "drop", "drop", "leave", work=50),
            proc("a", "p0", "leave", "num 1", "num 2", work=7), proc("b", "p0", "num 1", "trap case", work=7))
        self.assertEqual(work_needed(one, "p0"), (3, (0, 1, 2, 3, 4, 5)))
        self.assertEqual(work_needed(one, "a"), (0, (0,)))
        self.assertEqual(work_needed(one, "b"), (1, (0, 1)))
        for name in (None, "c", 0, ["a"]):
            self.refused(NoProc, name, work_needed, one, name)
            self.refused(NoProc, name, shows_work_needed, one, name, None)
        self.refused(NoProc, "z", work_needed, unit(program("p0", "drop")), "z")
        low = least_work(one)
        self.assertEqual([row for row in low.text.split("\n") if row.startswith("work")], ["work 3", "work 0", "work 1"])
        self.assertEqual(checked(low)[0], "let")
        self.assertEqual(low.text.replace("work 3", "work 50").replace("work 0", "work 7").replace("work 1", "work 7"), one.text)
        self.assertEqual(least_work(low), low)

    def test_shows_work_needed(self):
        one = unit(program("p0", "label 1", "num 1", "num 2", "drop", "num 3", "drop", "drop", "jump 1"))
        self.assertEqual(work_needed(one, "p0"), (2, (0, 1, 2, 3)))
        whole = (0, 1, 2, 3, 4, 5, 6, 7)
        for value, is_right in (
                ((2, (0, 1, 2, 3)), True), ((2, (0, 1, 2, 3, 4, 5)), True), ((2, whole + (0, 1, 2, 3)), True), ((2, (0, 1, 2)), False), ((1, (0, 1, 2)), False),
                ((2, ()), False), ((2, (1, 2, 3)), False), ((3, (0, 1, 2, 3)), False), ((2, [0, 1, 2, 3]), False), (("2", (0, 1, 2, 3)), False),
                ((2,), False), (None, False), ([2, (0, 1, 2, 3)], False), ((2, (0, 1, 2, 3), 1), False), ((2, (False, 1, 2, 3)), False), ((2, None), False),
                (2, False), ((True, (0,)), False)):
            self.assertIs(shows_work_needed(one, "p0", value), is_right, value)
        one = unit(program("p0", "num 1", "drop", "leave"))
        self.assertIs(shows_work_needed(one, "p0", (True, (0, 1))), False)

    HANDING = (
        "signature g takes n gives -", "signature h takes n gives -", "signature k takes t gives -")

    def test_calls(self):
        one = unit(
            *self.HANDING, program("p0", "num 1", "call b", "num 1", "call b", "call a", "leave", "call c"),
            proc("a", "p0", "hand b g", "num 2", "callh g", "leave"), proc("b", "p0", "leave", takes=" n"),
            proc("c", "p0", "hand b h", "call d", "leave"), proc("d", "p0", "leave", "truth 1", "callh k", takes=" @g"),
            proc("e", "p0", "hand f h", "num 1", "callh h", "leave"), proc("f", "p0", "leave", takes=" n"))
        one = Unit(one.text.replace("call d", "drop"))
        self.assertEqual(calls(one), (
            ("p0", ("a", "b")), ("a", ("b", "f")), ("b", ()), ("c", ()), ("d", ()), ("e", ("b", "f")), ("f", ())))
        self.assertEqual(never_called(one), ("c", "d", "e"))
        self.assertEqual(frames_needed(one), ("most", 3, ("p0", "a", "b")))
        for value, is_right in (
                (("most", 3, ("p0", "a", "b")), True), (("most", 3, ("p0", "a", "f")), True), (("most", 2, ("p0", "b")), False),
                (("most", 3, ("p0", "b", "a")), False), (("most", 3, ("e", "a", "b")), False), (("most", 3, ["p0", "a", "b"]), False),
                (("most", 3), False), (("most", 4, ("p0", "a", "b", "f")), False), (("most", True, ("p0", "a", "b")), False), (None, False),
                (("ring", ("a",)), False), (("most", 3, ("p0", "a", "z")), False), (("most", 3, ("p0", "a", 1)), False), (("most", 3, ()), False),
                (("most", "3", ("p0", "a", "b")), False), ((), False), (("Most", 3, ("p0", "a", "b")), False), (["most", 3, ("p0", "a", "b")], False),
                (("most", 3, ("p0", "a", ["b"])), False), (("ring", 3, ("p0", "a", "b")), False)):
            self.assertIs(shows_frames_needed(one, value), is_right, value)

    def test_what_a_row_never_come_to_hands_does_not_count(self):
        one = unit(
            *self.HANDING, program("p0", "leave"), proc("a", "p0", "handed 0 0", "num 1", "callh g", "leave", takes=" @g"),
            proc("b", "p0", "leave", "hand c g", "drop"), proc("c", "p0", "leave", takes=" n"))
        self.assertEqual(dict(calls(one))["a"], ())
        handed = Unit(one.text.replace("leave\nhand c g\ndrop", "hand c g\ndrop\nleave"))
        self.assertEqual(dict(calls(handed))["a"], ("c",))

    def test_rings(self):
        one = unit(
            program("p0", "call a", "leave"), proc("a", "p0", "call b", "leave"), proc("b", "p0", "call c", "call d", "leave"),
            proc("c", "p0", "call a", "leave"), proc("d", "p0", "call d", "leave"), proc("e", "p0", "call e", "leave"))
        told = frames_needed(one)
        self.assertEqual(told[0], "ring")
        self.assertIs(shows_frames_needed(one, told), True)
        for value, is_right in (
                (("ring", ("a", "b", "c")), True), (("ring", ("b", "c", "a")), True), (("ring", ("d",)), True), (("ring", ("d", "d")), True),
                (("ring", ("a", "b", "c", "a", "b", "c")), True), (("ring", ("e",)), False), (("ring", ("a", "b")), False), (("ring", ("p0",)), False),
                (("ring", ()), False), (("ring", ["d"]), False), (("ring", ("a", "c", "b")), False), (("most", 3, ("p0", "a", "b")), False),
                (("ring", "d"), False), (("ring", ("z",)), False), (("ring",), False), (("ring", ("d",), 1), False), (("ring", (1,)), False)):
            self.assertIs(shows_frames_needed(one, value), is_right, value)
        one = unit(
            program("p0", "call a", "leave"), proc("a", "p0", "call b", "leave"), proc("b", "p0", "call c", "leave"),
            proc("c", "p0", "call a", "leave"))
        self.assertIn(frames_needed(one), [("ring", ring) for ring in (("a", "b", "c"), ("b", "c", "a"), ("c", "a", "b"))])
        # A ring to which no chain leads does not count.
        one = unit(program("p0", "leave"), proc("e", "p0", "call e", "leave"))
        self.assertEqual(frames_needed(one), ("most", 1, ("p0",)))
        self.assertEqual(never_called(one), ("e",))

    def test_longest_chain(self):
        one = unit(
            program("p0", "call d", "call a", "leave"), proc("a", "p0", "call b", "leave"), proc("b", "p0", "call c", "leave"),
            proc("c", "p0", "leave"), proc("d", "p0", "call c", "leave"))
        self.assertEqual(frames_needed(one), ("most", 4, ("p0", "a", "b", "c")))
        self.assertEqual(never_called(one), ())


if __name__ == "__main__":
    unittest.main()
