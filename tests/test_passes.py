"""Point 19: bettered, kept: each row of both tables, alone and where it must not go; errors."""

import random
import unittest

from begunended.checking import checked
from begunended.compiling import compiled
from begunended.errors import BadPasses, NotLet, NotWhole, StageError
from begunended.machine import run_unit
from begunended.passes import bettered, kept, made_seam
from begunended.program import Program
from begunended.units import Unit
from tests.machines import Machines, proc, unit_of_rows
from tests.random_programs import random_program

PASSES = ("looks", "tests", "folded", "unread", "sums", "pairs", "again", "lines", "jumps", "dead")
TURNS = ("sums", "pairs", "again", "lines", "jumps", "dead")


class Passing(Machines):
    """For test cases: what comes of rows by passes, and which of them stay."""

    def done(self, passes, rows, names="<text> n n t c s 3*n &n", more=(), name="p0"):
        if isinstance(passes, str):
            passes = (passes,)
        unit = unit_of_rows(rows.split("; "), names, more=more)
        self.assertEqual(checked(unit)[0], "let", (rows, checked(unit)))
        other = bettered(unit, passes)
        self.assertEqual(checked(other)[0], "let", (rows, other.code("p0")))
        stayed = kept(unit, passes)
        self.assertEqual(stayed, tuple(sorted(stayed)))
        for proc_name, left, right in stayed:
            self.assertEqual(unit.code(proc_name)[left].split(" ")[0], other.code(proc_name)[right].split(" ")[0])
        self.assertEqual([row for row in other.text.split("\n") if row.split(" ")[0] in ("proc", "takes", "work", "names", "files",
            "layout")],
                         [row for row in unit.text.split("\n") if row.split(" ")[0] in ("proc", "takes", "work", "names", "files",
                         "layout")])
        return "; ".join(other.code(name)), [row[1:] for row in stayed if row[0] == name]

    def turns(self, passes, rows, result, pairs=None, **told):
        """That this comes of rows; pairs are the rows that stay."""
        code, stayed = self.done(passes, rows, **told)
        self.assertEqual(code, result, rows)
        if pairs is not None:
            self.assertEqual(stayed, pairs, rows)

    def stays(self, passes, rows, **told):
        """That these rows stay as they are."""
        many = len(rows.split("; "))
        self.turns(passes, rows, rows, [(row, row) for row in range(many)], **told)


class SumsTest(Passing, unittest.TestCase):
    def test_two_values(self):
        told = {
            "num 2; num 3; add": "num 5", "num 2; num 3; sub": "num -1", "num -2; num 3; mul": "num -6", "num 7; num -2; div": "num -3",
            "num -7; num 2; mod": "num 1", "num 2; num 3; lt": "truth 1", "num 2; num 3; eq": "truth 0", "num 2; num 4; span": "set 2 3 4",
            "num 4; num 2; span": "set", "truth 1; truth 0; and": "truth 0", "truth 1; truth 0; or": "truth 1",
            "truth 0; truth 1; lt": "truth 1",
            "sign 65; sign 66; ge": "truth 0", "sign 65; sign 65; eq": "truth 1", "set 1 2; set 2 3; join": "set 1 2 3",
            "set 1 2; set 2 3; meet": "set 2",
            "set 1 2; set 2 3; less": "set 1", "set 1; set 1; seq": "truth 1", "set 1; set 1; sne": "truth 0",
            "set 1; set 1 2; inside": "truth 1",
            "set 1; set 1 2; around": "truth 0", "num 2; set 2 3; in": "truth 1", "num -2; set 2 3; in": "truth 0",
            "num 2; num 2; ne": "truth 0"}
        for rows, result in told.items():
            self.turns("sums", rows + "; drop; leave", result + "; drop; leave", [(3, 1), (4, 2)])

    def test_one_value(self):
        told = {
            "num 4; neg": "num -4", "num -4; abs": "num 4", "num -4; sqr": "num 16", "num 3; odd": "truth 1", "num 65; chr": "sign 65",
            "num 1; tru": "truth 1",
            "num 3; look 1 5": "num 3", "truth 0; not": "truth 1", "truth 1; ordt": "num 1", "sign 65; ordc": "num 65",
            "num 9; one": "set 9",
            "set 3 4; within 1 9": "set 3 4", "set; within 5 5": "set"}
        for rows, result in told.items():
            self.turns("sums", rows + "; drop; leave", result + "; drop; leave", [(2, 1), (3, 2)])

    def test_what_would_trap(self):
        for rows in ("num 2147483647; num 1; add", "num 1; num 0; div", "num 1; num 0; mod", "num 50000; sqr", "num 31; chr", "num 2; tru",
            "num 9; look 1 5",
                     "num 128; one", "num -1; num 3; span", "set 3; within 1 2"):
            self.stays("sums", rows + "; drop; leave")

    def test_what_does_not_fit(self):
        more = proc("p1", "p0", "n n", "n", "n", ["place 0 2", "num 1", "store", "leave"])
        self.stays("sums", "num 1; num 2; call p1; drop; leave", more=more)
        more = proc("p1", "p0", "n", "n", "n", ["place 0 1", "num 1", "store", "leave"])
        self.stays("sums", "num 1; call p1; drop; leave", more=more)
        for rows in ("num 1; dup; drop; drop; leave", "num 1; line 3; neg; drop; leave", "num 1; num 2; line 3; add; drop; leave",
            "nil l0; nil l0; same; drop; leave",
                     "string 65; string 65; text eq; drop; leave", "num 1; drop; leave", "place 0 0; num 1; num 2; writen; leave"):
            self.stays("sums", rows)
        self.stays("sums", "num 1; jump 2; label 2; neg; drop; leave")

    def test_tests_of_told_values(self):
        self.turns("sums", "truth 1; unless 1; label 1; leave", "label 1; leave", [(2, 0), (3, 1)])
        self.turns("sums", "truth 0; unless 1; line 2; label 1; leave", "jump 1; line 2; label 1; leave", [(2, 1), (3, 2), (4, 3)])
        rows = "num {}; table 3 1 - 2; label 1; line 1; label 2; leave"
        for number, label in ((3, 1), (5, 2)):
            self.turns("sums", rows.format(number), f"jump {label}; label 1; line 1; label 2; leave", [(2, 1), (3, 2), (4, 3), (5, 4)])
        for number in (2, 4, 6):
            self.stays("sums", rows.format(number))

    def test_again_from_the_first_row(self):
        self.turns("sums", "num 1; num 2; num 3; num 4; add; add; add; neg; drop; leave", "num -10; drop; leave", [(8, 1), (9, 2)])
        self.turns("sums", "num 7; num 2; num 3; add; num 5; eq; unless 1; drop; leave; label 1; drop; leave",
                   "num 7; drop; leave; label 1; drop; leave", [(0, 0), (7, 1), (8, 2), (9, 3), (10, 4), (11, 5)])


class PairsTest(Passing, unittest.TestCase):
    def test_what_is_dropped(self):
        for row in ("num 4", "truth 0", "sign 66", "set 1 2", "nil l0", "string 65 66", "place 0 1", "place 0 6"):
            self.turns("pairs", f"{row}; drop; leave", "leave", [(2, 0)])
        self.turns("pairs", "num 1; line 2; dup; drop; line 3; drop; leave", "num 1; line 2; line 3; drop; leave",
            [(0, 0), (1, 1), (4, 2), (5, 3), (6, 4)])
        self.stays("pairs", "place 0 1; bind 7; place 0 7; drop; leave")
        more = proc("p1", "p0", "&n", "-", "", ["place 0 0", "drop", "place 1 1", "drop", "leave"])
        self.turns("pairs", "leave", "place 0 0; drop; leave", [(0, 0), (1, 1), (4, 2)], more=more, name="p1")
        self.stays("pairs", "num 1; line 1; drop; leave")
        self.stays("pairs", "num 1; neg; drop; leave")

    def test_places_that_are_not_there(self):
        # In rows never come to what is not there counts as no &L.
        for row in ("place 0 99", "place 5 0", "place 0 7"):
            unit = unit_of_rows(["leave", row, "drop", "leave"], "n n n n n n n &n")
            self.assertEqual(len(bettered(unit, ("pairs",)).code("p0")), 4 if row == "place 0 7" else 2, row)

    def test_nothing_twice(self):
        self.turns("pairs", "truth 1; not; not; drop; leave", "leave")
        self.turns("pairs", "num 5; neg; neg; num 0; add; num 0; sub; num 1; mul; place 0 1; drop; drop; leave", "leave")
        for rows in ("num 5; num 1; add; drop; leave", "num 5; num 0; mul; drop; leave", "num 5; num 1; sub; drop; leave",
            "num 5; num 1; div; drop; leave",
                     "num 5; neg; abs; drop; leave", "num 0; num 5; add; drop; leave"):
            self.stays("pairs", rows)

    def test_looks(self):
        self.turns("pairs", "num 5; look 3 9; look 3 9; drop; leave", "num 5; look 3 9; drop; leave", [(0, 0), (1, 1), (3, 2), (4, 3)])
        self.turns("pairs", "num 5; look 3 9; look 0 20; drop; leave", "num 5; look 3 9; drop; leave")
        for rows in ("num 5; look 3 9; look 4 9; drop; leave", "num 5; look 3 9; look 3 8; drop; leave",
                "num 5; look 3 9; line 3; look 3 9; drop; leave"):
            self.stays("pairs", rows)
        self.turns("pairs", "set 5; within 3 9; within 3 9; drop; leave", "set 5; within 3 9; drop; leave",
            [(0, 0), (1, 1), (3, 2), (4, 3)])
        self.stays("pairs", "set 5; within 3 9; within 0 20; drop; leave")

    def test_comparisons_turned(self):
        for one, other in (("eq", "ne"), ("ne", "eq"), ("lt", "ge"), ("ge", "lt"), ("le", "gt"), ("gt", "le")):
            self.turns("pairs", f"num 1; num 2; {one}; not; drop; leave", f"num 1; num 2; {other}; drop; leave",
                [(0, 0), (1, 1), (4, 3), (5, 4)])
        for one, other in (("same", "unlike"), ("unlike", "same")):
            self.turns("pairs", f"nil l0; nil l0; {one}; not; drop; leave", f"nil l0; nil l0; {other}; drop; leave")
        for one, other in (("seq", "sne"), ("sne", "seq")):
            self.turns("pairs", f"set 1; set; {one}; not; drop; leave", f"set 1; set; {other}; drop; leave")
        self.stays("pairs", "set 1; set; inside; not; drop; leave")
        self.turns("pairs", "num 1; num 2; lt; not; not; not; drop; leave", "num 1; num 2; ge; drop; leave")


class AgainTest(Passing, unittest.TestCase):
    def test_loads(self):
        self.turns("again", "place 0 1; load; place 0 1; load; add; drop; leave", "place 0 1; load; dup; add; drop; leave",
            [(0, 0), (4, 3), (5, 4), (6, 5)])
        rows = "place 0 1; bind 7; place 0 7; load; place 0 7; load; add; drop; leave"
        self.turns("again", rows, "place 0 1; bind 7; place 0 7; load; dup; add; drop; leave",
            [(0, 0), (1, 1), (2, 2), (6, 5), (7, 6), (8, 7)])
        for rows in ("place 0 1; load; place 0 2; load; add; drop; leave", "place 0 1; load; line 3; place 0 1; load; add; drop; leave"):
            self.stays("again", rows)

    def test_places(self):
        self.turns("again", "place 0 1; place 0 1; load; num 1; add; store; leave", "place 0 1; dup; load; num 1; add; store; leave",
                   [(0, 0), (2, 2), (3, 3), (4, 4), (5, 5), (6, 6)])
        self.stays("again", "place 0 1; bind 7; place 0 7; place 0 7; load; store; leave")
        self.stays("again", "place 0 1; place 0 2; load; store; leave")
        self.turns("again", "place 0 1; place 0 1; place 0 1; drop; drop; drop; leave",
            "place 0 1; dup; place 0 1; drop; drop; drop; leave",
                   [(0, 0), (2, 2), (3, 3), (4, 4), (5, 5), (6, 6)])


class LinesTest(Passing, unittest.TestCase):
    def test_lines(self):
        self.turns("lines", "line 1; line 2; line 3; leave", "line 3; leave", [(2, 0), (3, 1)])
        self.turns("lines", "line 1; label 1; label 2; line 3; truth 1; unless 1; leave",
            "label 1; label 2; line 3; truth 1; unless 1; leave",
                   [(1, 0), (2, 1), (3, 2), (4, 3), (5, 4), (6, 5)])
        self.turns("lines", "line 4; line 4; leave", "line 4; leave", [(1, 0), (2, 1)])
        for rows in ("line 1; num 1; line 2; drop; leave", "line 1; jump 1; label 1; line 2; leave", "line 1; label 1; leave",
                "line 1; leave"):
            self.stays("lines", rows)


class JumpsTest(Passing, unittest.TestCase):
    def test_jumps_to_what_is_behind(self):
        self.turns("jumps", "jump 1; label 1; leave", "leave", [(2, 0)])
        self.turns("jumps", "jump 1; label 2; label 1; truth 1; unless 2; leave", "label 2; truth 1; unless 2; leave",
            [(1, 0), (3, 1), (4, 2), (5, 3)])
        self.stays("jumps", "jump 1; line 1; label 1; leave")
        self.turns("jumps", "jump 1; label 2; line 3; label 1; leave", "jump 1; line 3; label 1; leave")

    def test_led_over_jumps(self):
        self.turns("jumps", "jump 1; label 2; leave; label 1; jump 2", "label 2; leave; jump 2")
        rows = "truth 1; unless 1; leave; label 1; label 4; jump 2; label 3; num 1; drop; label 2; leave"
        self.turns("jumps", rows, "truth 1; unless 2; leave; jump 2; num 1; drop; label 2; leave",
            [(0, 0), (1, 1), (2, 2), (5, 3), (7, 4), (8, 5), (9, 6), (10, 7)])

    def test_lines_ahead_of_jumps(self):
        rows = "truth 1; unless 1; leave; label 1; line 3; line 4; jump 2; num 1; drop; label 2; {}leave"
        self.turns("jumps", rows.format("line 5; "), "truth 1; unless 2; leave; line 3; line 4; jump 2; num 1; drop; label 2; line 5; leave")
        self.stays("jumps", rows.format(""))
        self.turns("jumps", rows.format("label 5; line 5; "), "truth 1; unless 2; leave; line 3; line 4; jump 2; num 1; drop; label 2; line 5; leave")

    def test_tables(self):
        rows = "num 1; table 1 1 2 1; label 1; jump 3; label 2; jump 4; label 3; num 1; drop; label 4; leave"
        self.turns("jumps", rows, "num 1; table 1 3 4 3; jump 3; jump 4; label 3; num 1; drop; label 4; leave",
                   [(0, 0), (1, 1), (3, 2), (5, 3), (6, 4), (7, 5), (8, 6), (9, 7), (10, 8)])
        # The row names 3 already.
        rows = "num 1; table 1 1 3; label 1; jump 3; label 2; num 1; drop; label 3; leave"
        self.turns("jumps", rows, "num 1; table 1 1 3; label 1; jump 3; num 1; drop; label 3; leave")

    def test_labels_that_name_one_another(self):
        self.turns("jumps", "label 1; jump 1", "label 1; jump 1")
        code, _ = self.done("jumps", "jump 1; label 2; jump 1; label 1; jump 2")
        for rows in ("jump 1; label 2; jump 1; label 1; jump 2", "jump 3; label 1; jump 2; label 2; jump 3; label 3; jump 1",
                     "truth 1; unless 1; leave; label 1; jump 2; label 2; line 3; jump 1",
                     "num 1; table 1 1 2 3; label 1; jump 2; label 2; jump 3; label 3; jump 1"):
            code, _ = self.done("jumps", rows)
            self.assertEqual(self.done("jumps", code)[0], self.done(("jumps", "jumps"), rows)[0])

    def test_round_about(self):
        # Led on as far as it names no label twice: from 1 to 2, to 3, and no further.
        rows = "truth 1; unless 1; leave; label 1; jump 2; num 1; drop; label 2; jump 3; num 1; drop; label 3; jump 1"
        unit = unit_of_rows(rows.split("; "))
        self.assertEqual(bettered(unit, ("jumps",)).code("p0")[1], "unless 3")

    def test_labels_that_nothing_names(self):
        self.turns("jumps", "label 1; num 1; label 2; drop; leave", "num 1; drop; leave", [(1, 0), (3, 1), (4, 2)])
        more = proc("p1", "p0", "", "-", "", ["far 1 7"])
        self.stays("jumps", "call p1; leave; label 7; leave", more=more)
        more = proc("p1", "p0", "", "-", "", ["leave", "far 1 7"])
        self.stays("jumps", "call p1; leave; label 7; leave", more=more)
        more = proc("p1", "p0", "", "-", "", ["leave", "label 7", "far 2 7"])
        self.turns("jumps", "call p1; leave; label 7; leave", "call p1; leave; leave", more=more)


class DeadTest(Passing, unittest.TestCase):
    def test_rows_that_no_way_reaches(self):
        self.turns("dead", "jump 1; line 2; num 1; label 2; drop; jump 2; label 1; leave; line 4; leave", "jump 1; label 1; leave",
            [(0, 0), (6, 1), (7, 2)])
        self.turns("dead", "num 1; table 1 1 - 2; leave; label 1; trap case; num 1; label 2; leave",
            "num 1; table 1 1 - 2; label 1; trap case; label 2; leave")
        self.stays("dead", "truth 1; unless 1; leave; label 1; leave")
        more = proc("p1", "p0", "", "-", "", ["leave", "far 1 7"])
        self.turns("dead", "call p1; leave; num 1; label 7; leave; num 2", "call p1; leave; label 7; leave", more=more)
        self.turns("dead", "call p1; leave; label 7; leave", "leave", [(0, 0)], more=more, name="p1")
        # The far is put out behind: only then the label is dead.
        self.turns(("dead", "dead"), "call p1; leave; label 7; leave", "call p1; leave", more=more)


class SurePassesTest(Passing, unittest.TestCase):
    def between(self, low, high):
        return f"place 0 0; readn; look {low} {high}"

    def test_looks(self):
        rows = self.between(3, 9) + "; look 1 9; look 4 9; drop; leave"
        self.turns("looks", rows, self.between(3, 9) + "; look 4 9; drop; leave", [(0, 0), (1, 1), (2, 2), (4, 3), (5, 4), (6, 5)])
        self.stays("looks", "place 0 0; readn; look 1 9; drop; leave; num 1; look 1 9")
        self.stays("looks", "set 3; within 0 9; drop; leave")

    def test_tests(self):
        self.turns("tests", "truth 1; unless 1; leave; label 1; trap case", "truth 1; drop; leave; label 1; trap case",
            [(0, 0), (2, 2), (3, 3), (4, 4)])
        self.turns("tests", "truth 0; unless 1; leave; label 1; trap case", "truth 0; drop; jump 1; leave; label 1; trap case",
            [(0, 0), (2, 3), (3, 4), (4, 5)])
        self.stays("tests", "place 0 0; eof; unless 1; leave; label 1; leave; label 2; truth 1; unless 2; leave")

    def test_folded(self):
        told = {
            "num 3; num 1; add": "num 3; num 1; drop; drop; num 4", "num 1; neg": "num 1; drop; num -1",
            "num 65; chr": "num 65; drop; sign 65",
            "truth 1; not": "truth 1; drop; truth 0", "sign 65; ordc": "sign 65; drop; num 65",
            "num 3; num 4; lt": "num 3; num 4; drop; drop; truth 1",
            "truth 1; truth 0; and": "truth 1; truth 0; drop; drop; truth 0", "num 3; odd": "num 3; drop; truth 1",
            "num 1; tru": "num 1; drop; truth 1",
            "sign 65; sign 65; eq": "sign 65; sign 65; drop; drop; truth 1"}
        for rows, result in told.items():
            self.turns("folded", rows + "; drop; leave", result + "; drop; leave")
        self.turns("folded", "place 0 1; num 4; store; place 0 1; load; drop; leave",
            "place 0 1; num 4; store; place 0 1; drop; num 4; drop; leave",
                   [(0, 0), (1, 1), (2, 2), (3, 3), (5, 6), (6, 7)])
        self.turns("folded", "place 0 4; sign 70; store; place 0 4; load; drop; leave",
            "place 0 4; sign 70; store; place 0 4; drop; sign 70; drop; leave")
        self.turns("folded", self.between(5, 9) + "; num 9; gt; drop; leave", self.between(5,
            9) + "; num 9; drop; drop; truth 0; drop; leave")

    def test_what_is_not_folded(self):
        more = proc("p1", "p0", "n", "n", "n", ["place 0 1", "num 1", "store", "leave"])
        self.stays("folded", "num 1; call p1; drop; leave", more=more)
        for rows in ("num 4; look 1 9; drop; leave", "num 1; set 1; in; drop; leave", "set; set; seq; drop; leave",
            "num 1; dup; drop; drop; leave",
                     self.between(1, 9) + "; num 1; add; drop; leave", "num 0; num 0; div; drop; leave",
                     "num 1; drop; leave; num 1; num 2; add",
                     "place 0 6; num 1; index 1 3; load; drop; leave"):
            self.stays("folded", rows)
        # What comes is widened: 7 is no end of the unit, and 0 is one.
        self.stays("folded", "num 3; num 4; add; drop; leave")
        self.stays("folded", "num 3; neg; drop; leave")
        self.turns("folded", "num 3; num 0; mul; drop; leave", "num 3; num 0; drop; drop; num 0; drop; leave")
        # The name may be unset; the divisor may be 0.
        rows = "place 0 0; eof; unless 1; place 0 1; num 4; store; label 1; place 0 1; load; drop; leave"
        self.stays("folded", rows)
        self.stays("folded", self.between(0, 5) + "; dup; div; drop; leave")

    def test_states_not_joined(self):
        # The cell behind the row is of one number, though ways are joined there.
        rows = "place 0 0; eof; unless 1; num 3; num 1; add; label 2; drop; leave; label 1; num 9; jump 2"
        self.turns("folded", rows, "place 0 0; eof; unless 1; num 3; num 1; drop; drop; num 4; label 2; drop; leave; label 1; num 9; jump 2")

    def test_unread(self):
        self.turns("unread", "place 0 1; num 4; store; place 0 1; unset; leave", "place 0 1; num 4; drop; drop; place 0 1; unset; leave",
                   [(0, 0), (1, 1), (3, 4), (4, 5), (5, 6)])
        self.turns("unread", "leave; place 0 1; num 4; store; leave", "leave; place 0 1; num 4; drop; drop; leave")
        self.stays("unread", "place 0 1; num 4; store; leave; place 0 1; load; drop; leave")
        self.stays("unread", "place 0 1; bind 7; place 0 1; num 4; store; leave")
        result = proc("p1", "p0", "n", "n", "n n", "place 0 1; num 1; store; place 0 0; num 2; store; place 0 2; num 3; store; leave".split("; "))
        self.turns("unread", "leave", "place 0 1; num 1; store; place 0 0; num 2; drop; drop; place 0 2; num 3; drop; drop; leave",
            more=result, name="p1")
        far = proc("p1", "p0", "", "-", "", ["leave", "far 1 7"])
        self.stays("unread", "place 0 1; num 4; store; call p1; leave; label 7; leave", more=far)
        self.turns("unread", "place 0 1; num 4; store; call p1; leave; label 7; leave",
            "place 0 1; num 4; drop; drop; call p1; leave; label 7; leave",
                   more=proc("p1", "p0", "", "-", "", ["leave", "far 2 7"]))

    def test_they_look_once(self):
        # Behind the first turn a second one could go: it goes in a second pass.
        rows = "num 3; num 4; add; num 7; eq; unless 1; leave; label 1; trap case"
        code = self.done("folded", rows)[0]
        self.assertEqual(code, "num 3; num 4; drop; drop; num 7; num 7; drop; drop; truth 1; unless 1; leave; label 1; trap case")
        code = self.done("tests", rows)[0]
        self.assertEqual(code, "num 3; num 4; add; num 7; eq; drop; leave; label 1; trap case")
        rows = "place 0 1; num 3; store; truth 1; unless 1; jump 2; label 1; place 0 1; num 4; store; label 2; place 0 1; load; look 3 3; drop; leave"
        self.turns("looks", rows, rows.replace("look 3 3; ", ""))

    def test_no_more_than_200_rows(self):
        head = "num 1; num 2; add; drop; "
        rows = head + "; ".join(["num 1; drop"] * 97) + "; leave"
        self.assertEqual(len(rows.split("; ")), 199)
        self.turns("folded", rows, rows, names="n")
        rows = head + "; ".join(["num 1; drop"] * 96) + "; leave"
        self.turns("folded", rows, rows.replace("add", "drop; drop; num 3"), names="n")
        # One that gets too many stays, a shorter one behind it goes.
        both = "num 1; num 2; add; drop; num 1; neg; drop; " + "; ".join(["num 1; drop"] * 95) + "; line 3; leave"
        self.assertEqual(len(both.split("; ")), 199)
        self.turns("folded", both, both.replace("neg", "drop; num -1"), names="n")
        tests = "truth 0; unless 1; label 1; " + "; ".join(["num 1; drop"] * 98) + "; leave"
        self.assertEqual(len(tests.split("; ")), 200)
        self.stays("tests", tests, names="n")


class AllPassesTest(Passing, unittest.TestCase):
    def test_no_pass(self):
        unit = unit_of_rows(["num 1", "drop", "leave"])
        self.assertEqual(bettered(unit, ()), unit)
        self.assertEqual(kept(unit, ()), (("p0", 0, 0), ("p0", 1, 1), ("p0", 2, 2)))
        self.assertEqual(bettered(unit=unit, passes=("pairs",)).code("p0"), ("leave",))

    def test_errors(self):
        unit = unit_of_rows(["leave"])
        wrong = Unit("proc p0 -\ntakes\ngives -\nnames\nfiles\nwork 0\ndrop\nleave\nend")
        needing = Unit("needs q p0 takes gives -\nproc p0 -\ntakes\ngives -\nnames\nfiles\nwork 0\ndrop\nleave\nend")
        for function in (bettered, kept, made_seam):
            self.refused(NotWhole, ("q",), function, needing, 3)
            self.refused(NotLet, checked(wrong), function, wrong, 3)
            for value in (None, "sums", ["sums"], ("sums", "sum"), (None,), ("sums",) * 13, {}, True, ("Sums",), (("sums",),), (1,), ("",)):
                self.refused(BadPasses, value, function, unit, value)
        self.assertEqual(bettered(unit, ("sums",) * 12), unit)

    def test_results_do_not_stay(self):
        # What comes of a turn is a new row, though it is as one was.
        self.turns("sums", "num 3; look 1 9; drop; leave", "num 3; drop; leave", [(2, 1), (3, 2)])
        self.turns(("folded", "pairs"), "num 3; num 1; add; drop; leave", "leave", [(4, 0)])

    def test_passes_of_programs(self):
        rolls = random.Random(9)
        inputs = (("input", "12 abc 4 7\nx y 9\n3"),)
        for seed in range(24):
            try:
                unit = compiled(Program(random_program(seed)))
            except StageError:
                continue
            told = run_unit(unit, inputs, 6000)
            for _ in range(3):
                passes = tuple(rolls.choice(PASSES) for _ in range(rolls.randint(1, 12)))
                parted = rolls.randint(0, len(passes))
                other = bettered(unit, passes)
                self.assertEqual(bettered(bettered(unit, passes[:parted]), passes[parted:]), other)
                self.assertEqual(checked(other)[0], "let")
                if told[1] != ("on",):
                    self.assertEqual(run_unit(other, inputs, 60000), told, (seed, passes))
                last = rolls.choice(TURNS[:5])
                twice = bettered(other, (last,))
                self.assertEqual(bettered(twice, (last,)), twice)


if __name__ == "__main__":
    unittest.main()
