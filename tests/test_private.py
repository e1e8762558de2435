"""Point 18: private names, with each way in which a name is none; the ends of a unit."""

import unittest

from begunended.checking import checked
from begunended.claims import ends_of, private
from begunended.errors import NoProc, NotLet, NotWhole
from begunended.units import Unit
from tests.machines import Machines, proc, unit_of_rows

MAXINT = 2147483647
PLAIN = "place 0 0; num 1; store; place 0 0; load; drop; place 0 0; unset"


class PrivateTest(Machines, unittest.TestCase):
    def names(self, rows, names="n", more=(), name="p0"):
        unit = unit_of_rows([*rows.split("; "), "leave"], names, more=more)
        self.assertEqual(checked(unit)[0], "let", checked(unit))
        return private(unit, name)

    def test_what_goes_well(self):
        self.assertEqual(self.names(PLAIN), (0,))
        self.assertEqual(self.names("place 0 0; dup; load; num 1; add; store; place 0 0; drop; place 0 0; dup; drop; unset"), (0,))
        self.assertEqual(self.names("place 0 0; place 0 0; dup; drop; load; line 5; num 2; add; store"), (0,))
        self.assertEqual(self.names("place 0 0; num 3; call p1; store", more=proc("p1", "p0", "n", "n", "n",
            ["place 0 1", "num 1", "store", "leave"])), (0,))
        # Names without rows place are private, too; so are results and takes.
        self.assertEqual(self.names("num 1; drop", names="n t c n"), (0, 1, 2, 3))
        more = proc("p1", "p0", "n &n t (n,c) c", "n", "n t &n", "place 0 5; num 1; store; place 0 0; load; drop; leave".split("; "))
        self.assertEqual(self.names("num 1; drop", more=more, name="p1"), (0, 2, 4, 5, 6))

    def test_layouts(self):
        self.assertEqual(self.names("num 1; drop", names="n s t ^l0 c (n,c) 2*n <n> &n <text>"), (0, 2, 4))

    def test_other_procs(self):
        for rows, told in (("place 1 0; load; drop", (1,)), ("place 1 1; drop", (0,)), ("place 0 0; drop; jump 1; label 1", (0, 1))):
            more = proc("p1", "p0", "", "-", "n", [*rows.split("; "), "leave"])
            self.assertEqual(self.names(PLAIN, names="n n", more=more), told)
        # So does a row that is never come to; of procs further in, too.
        more = proc("p1", "p0", "", "-", "n", ["leave", "place 1 0", "place 2 1", "place 9 0", "leave"])
        self.assertEqual(self.names(PLAIN, names="n n", more=more), (1,))
        more = [*proc("p1", "p0", "", "-", "n", ["leave"]), *proc("p2", "p1", "", "-", "",
            ["place 2 0", "drop", "place 1 0", "drop", "leave"])]
        self.assertEqual(self.names(PLAIN, more=more), ())
        self.assertEqual(self.names(PLAIN, more=more, name="p1"), ())

    def test_what_takes_a_place_otherwise(self):
        handing = proc("p1", "p0", "&n", "-", "", ["leave"])
        for rows in ("place 0 0; place 0 1; move", "place 0 1; place 0 0; move", "place 0 0; call p1", "place 0 0; bind 2",
                     "place 0 0; dup; bind 2; drop", "place 0 0; dup; drop; call p1"):
            self.assertEqual(self.names(rows, names="n n &n", more=handing)[:1], (1,) if "0 1" not in rows else (), rows)

    def test_places_over_partings(self):
        for rows in ("place 0 0; jump 1; label 1; drop", "place 0 0; label 1; drop", "place 0 0; truth 1; unless 1; label 1; drop",
                     "place 0 0; num 1; table 1 1; label 1; drop", "truth 1; unless 1; place 0 0; trap case; label 1"):
            self.assertEqual(self.names(rows, names="n n"), (1,), rows)
        # Taken ahead of it: well; a row line is no parting.
        self.assertEqual(self.names("place 0 0; line 3; unset; truth 1; unless 1; label 1"), (0,))
        more = proc("p1", "p0", "", "-", "n n", ["place 0 0", "far 1 3"])
        unit = unit_of_rows(["call p1", "leave", "label 3", "leave"], "n", more=more)
        self.assertEqual([private(unit, "p0"), private(unit, "p1")], [(0,), (1,)])

    def test_rows_that_are_never_come_to(self):
        # They count as all others; whatever would lie there.
        for rows, told in (("load; drop", (0,)), ("add", ()), ("place 0 0; store", ()), ("num 1; store", (0,)), ("num 1", ()),
                ("dup; dup; drop; drop; drop", (0,))):
            unit = unit_of_rows(["leave", "place 0 0", *rows.split("; ")], "n")
            self.assertEqual(private(unit, "p0"), told, rows)
        unit = unit_of_rows(["leave", "num 1", "store", "place 0 0", "drop", "leave"], "n")
        self.assertEqual(private(unit, "p0"), (0,))

    def test_taken_as_another_thing(self):
        # The upper one is taken as a value, the lower one as the place of the store.
        unit = unit_of_rows(["leave", "place 0 1", "place 0 0", "store", "leave"], "n n")
        self.assertEqual(private(unit, "p0"), (1,))

    def test_errors(self):
        unit = unit_of_rows(["leave"])
        for value in ("p1", "", None, 0, True, ("p0",)):
            self.refused(NoProc, value, private, unit, value)
        wrong = Unit("proc p0 -\ntakes\ngives -\nnames\nfiles\nwork 0\ndrop\nleave\nend")
        self.refused(NotLet, checked(wrong), private, wrong, "p9")
        self.refused(NotLet, checked(wrong), ends_of, wrong)
        needing = Unit("needs q p0 takes gives -\nproc p0 -\ntakes\ngives -\nnames\nfiles\nwork 0\ndrop\nleave\nend")
        self.refused(NotWhole, ("q",), private, needing, "p9")
        self.refused(NotWhole, ("q",), ends_of, needing)


class EndsTest(Machines, unittest.TestCase):
    BASE = {-MAXINT, MAXINT, 1 - MAXINT, MAXINT - 1, -1, 0, 1, 2, 31, 32, 33, 125, 126, 127}

    def ends(self, *rows, names=""):
        return ends_of(unit_of_rows([*rows, "leave"], names))

    def around(self, *numbers):
        found = self.BASE | {number + more for number in numbers for more in (-1, 0, 1)}
        return tuple(sorted([end for end in found if -MAXINT <= end <= MAXINT]))

    def test_rows_that_tell_ends(self):
        self.assertEqual(self.ends(), self.around())
        self.assertEqual(self.ends("num 50", "drop"), self.around(50))
        self.assertEqual(self.ends("sign 70", "drop"), self.around(70))
        self.assertEqual(self.ends("num 1", "look -9 88", "drop"), self.around(-9, 88))
        self.assertEqual(self.ends("place 0 0", "num 1", "index -4 5", "drop", names="10*n"), self.around(-4, 5))
        self.assertEqual(self.ends("num 1", "table 7 1 - 1 -", "label 1"), self.around(7, 10))
        self.assertEqual(self.ends("num 2147483647", "drop", "num -2147483647", "drop"), self.around())

    def test_rows_that_tell_none(self):
        self.assertEqual(self.ends("set 55 60", "within 50 99", "drop", "string 77", "drop"), self.around())
        self.assertEqual(self.ends("place 0 0", "num 1", "lives 0 50 0", "truth 1", "drop", names="({(n)})"), self.around())
        unit = unit_of_rows(["leave", "num 40"], more=proc("p1", "p0", "", "-", "", ["leave", "look 60 61"]))
        self.assertEqual(ends_of(unit), self.around(40, 60, 61))

    def test_ends_beyond_maxint(self):
        self.assertEqual(self.ends("num 1", f"table {MAXINT} 1 1 1", "label 1"), self.around(MAXINT, MAXINT + 2))
        self.assertEqual(self.ends("num 1", f"table {MAXINT} 1 1", "label 1"), self.around(MAXINT + 1))


if __name__ == "__main__":
    unittest.main()
