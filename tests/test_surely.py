"""Point 18: closed, sure_rows with each word and order, set_ways and what shows them."""

import unittest

from begunended.checking import checked
from begunended.errors import BadValue, NoProc, NoRow, NotLet, NotWhole
from begunended.surely import all_claims, closed, set_ways, shows_set_ways, sure_rows
from begunended.units import Unit
from tests.machines import Machines, proc, unit_of_rows

MAXINT = 2147483647
LOOP = ("place 0 1; num 0; store; label 1; place 0 1; load; num 50; lt; unless 2; place 0 1; place 0 1; load; num 1; add; store; jump 1;"
        " label 2; leave").replace(";  ", "; ").split("; ")


def let(rows, names="", more=(), **told):
    unit = unit_of_rows(rows, names, more=more, **told)
    assert checked(unit)[0] == "let", checked(unit)
    return unit


class ClosedTest(Machines, unittest.TestCase):
    def setUp(self):
        self.unit = let(LOOP, "<text> n t")
        self.value = all_claims(self.unit)

    def put(self, row, part, told):
        """The claims with another thing told of a row."""
        found = []
        for claim in self.value:
            if claim[1] == row and claim[0] == "p0":
                claim = (*claim[:part], told, *claim[part + 1:])
            found.append(claim)
        return tuple(found)

    def test_all_claims_and_wider_ones(self):
        self.assertIs(closed(self.unit, self.value), True)
        self.assertIs(closed(unit=self.unit, value=self.value), True)
        wide = []
        for name, row, names, cells in self.value:
            names = tuple([(number, False, *({1: (-MAXINT, MAXINT), 2: (0, 1)}[number])) for number, *_ in names])
            cells = tuple([None if cell is None else ((0, 1) if row == 8 else (-MAXINT, MAXINT)) + (None, ()) for cell in cells])
            wide.append((name, row, names, cells))
        # The wide ones claim that a loaded name is not set: behind load it is.
        self.assertIs(closed(self.unit, tuple(wide)), True)

    def test_near_ones(self):
        for row, names in (
                (9, ((1, True, 0, 48), (2, False, None, None))), (9, ((1, True, 1, 49), (2, False, None, None))),
                (9, ((1, True, 0, 49), (2, True, None, None))), (17, ((1, True, 49, 50), (2, True, 0, 1))),
                (4, ((1, True, 0, 49), (2, False, None, None)))):
            self.assertIs(closed(self.unit, self.put(row, 2, names)), False, (row, names))
        self.assertIs(closed(self.unit, self.put(9, 2, ((1, True, 0, 50), (2, False, None, None)))), False)
        self.assertIs(closed(self.unit, self.put(17, 2, ((1, True, 49, 50), (2, False, None, None)))), True)
        self.assertIs(closed(self.unit, self.put(17, 2, ((1, False, 50, 50), (2, False, None, None)))), True)
        self.assertIs(closed(self.unit, self.put(17, 2, ((1, True, 50, 50), (2, False, 0, 1)))), True)
        self.assertIs(closed(self.unit, self.put(8, 3, ((0, 1, None, ()),))), False)
        self.assertIs(closed(self.unit, self.put(8, 3, ((1, 1, None, ((1, 0, "lt", 50, 50),)),))), False)
        self.assertIs(closed(self.unit, self.put(8, 3, ((0, 1, None, ((1, 0, "lt", 49, 51),)),))), False)
        self.assertIs(closed(self.unit, self.put(8, 3, ((0, 1, None, ((1, 0, "le", 50, 50),)),))), False)
        self.assertIs(closed(self.unit, self.put(6, 3, ((0, 50, None, ()),))), False)

    def test_rows_left_out_and_added(self):
        self.assertIs(closed(self.unit, self.value[1:]), False)
        self.assertIs(closed(self.unit, self.value[:-1]), False)
        self.assertIs(closed(self.unit, ()), False)
        self.assertIs(closed(self.unit, self.value[:5] + self.value[6:]), False)
        self.assertIs(closed(self.unit, self.value + self.value[-1:]), False)
        self.assertIs(closed(self.unit, (self.value[1], self.value[0], *self.value[2:])), False)
        more = proc("p1", "p0", "", "-", "", ["leave", "leave"])
        unit = let(["leave"], more=more)
        told = all_claims(unit)
        self.assertEqual(told, (("p0", 0, (), ()),))
        # A row that is come to may be claimed, though nothing calls its proc; one that is not may not.
        self.assertIs(closed(unit, (*told, ("p1", 0, (), ()))), True)
        self.assertIs(closed(unit, (*told, ("p1", 1, (), ()))), False)
        self.assertIs(closed(unit, (("p1", 0, (), ()), *told)), False)
        self.assertIs(closed(unit, (("p1", 0, (), ()),)), False)

    def test_forms(self):
        names, cells = self.value[5][2:]
        told = self.value[5][1]
        self.assertEqual(told, 5)
        wrong_names = [
            None, (), [*names], names[:1], names[::-1], (*names, names[0]), ((1, 1, 0, 50), names[1]), ((True, True, 0, 50), names[1]),
            ((1, True, None, 50), names[1]), ((1, True, 0, None), names[1]), ((1, True, 50, 0), names[1]), ((1, True, False, 50), names[1]),
            ((1, True, 0, 60), names[1]), ((1, True, 3, 50), names[1]), ((1, True, 0), names[1]), ([1, True, 0, 50], names[1]),
            (names[0], (2, False, 0, 2)), (names[0], (2, False, -1, 1)), (names[0], (2, None, 0, 1)), ((1, True, 0, 2147483648), names[1])]
        for value in wrong_names:
            self.assertIs(closed(self.unit, self.put(5, 2, value)), False, value)
        cell = (0, 50, (1, 0), ())
        self.assertEqual(self.value[6][3], (cell,))
        wrong_cells = [
            None, (), (None,), [cell], (list(cell),), (cell, cell), ((0, 50, (1, 0)),), ((0, 50, (1, 0), (), 0),), ((50, 0, (1, 0), ()),),
            ((0, 60, (1, 0), ()),), ((0, 50, (2.0, 0), ()),), ((0, 50, (0, 0), ()),), ((0, 50, (1, True), ()),), ((0, 50, (1,), ()),),
            ((0, 50, [1, 0], ()),), ((0, 50, (1, 0), None),), ((0, 50, (1, 0), ((1, 0, "lt", 0, 0),)),), ((False, 50, (1, 0), ()),)]
        for value in wrong_cells:
            self.assertIs(closed(self.unit, self.put(6, 3, value)), False, value)
        test = (1, 0, "lt", 50, 50)
        self.assertEqual(self.value[8][3], ((0, 1, None, (test,)),))
        wrong_tests = [
            None, test, [test], (test, test), ((1, 0, "lt", 50),), ((1, 0, "in", 50, 50),), ((0, 0, "lt", 50, 50),),
            ((1, None, "lt", 50, 50),),
            ((1, 0, "lt", 51, 50),), ((1, 0, "lt", 50, 60),), ((1, 0, "lt", None, None),), ((1, 0, None, 50, 50),), (None,),
            ((1, 0, "lt", 49, 50), test),
            (test, (1, 0, "eq", 50, 50))]
        for value in wrong_tests:
            self.assertIs(closed(self.unit, self.put(8, 3, ((0, 1, None, value),))), False, value)
        self.assertIs(closed(self.unit, self.put(8, 3, ((0, 1, None, (test,)),))), True)
        for value in (None, True, 3, "x", [], {}, ((),), (None,), (("p0", 0),), (("p0", "0", (), ()),), ((0, 0, (), ()),), list(self.value),
                      (("p9", 0, names, ()),), (("p0", True, names, ()),), (("p0", -1, names, ()), *self.value), self.unit):
            self.assertIs(closed(self.unit, value), False, value)

    def test_a_place_is_no_cell(self):
        place = [claim for claim in self.value if claim[1] == 1][0]
        self.assertEqual(place[3], (None,))
        self.assertIs(closed(self.unit, self.put(1, 3, ((0, 1, None, ()),))), False)


class SureRowsTest(Machines, unittest.TestCase):
    def words(self, rows, names="<text> n t 3*n", more=(), name="p0"):
        unit = let(rows.split("; "), names, more)
        return dict(sure_rows(unit, name))

    def last(self, rows, **told):
        """The word for the last of some rows, behind which there is a trap."""
        many = len(rows.split("; "))
        return self.words(rows + "; trap case", **told).get(many - 1)

    def between(self, low, high):
        return f"place 0 0; readn; look {low} {high}"

    def test_never(self):
        rows = "jump 1; line 3; num 1; drop; label 2; label 1; leave; leave"
        self.assertEqual(self.words(rows), {2: "never", 3: "never", 7: "never"})
        rows = "truth 1; unless 1; leave; label 1; num 1; drop; leave"
        self.assertEqual(self.words(rows), {1: "true", 4: "never", 5: "never", 6: "never"})
        more = proc("p1", "p0", "", "-", "", ["line 2", "leave"])
        self.assertEqual(self.words("leave", more=more, name="p1"), {1: "never"})

    def test_one_way(self):
        self.assertEqual(self.words("truth 0; unless 1; trap case; label 1; leave"), {1: "false", 2: "never"})
        self.assertEqual(self.words(self.between(0, 5) + "; num 6; lt; unless 1; leave; label 1; leave"), {5: "true", 8: "never"})
        self.assertEqual(self.words("place 0 0; eof; unless 1; leave; label 1; leave"), {})

    def test_whole_numbers(self):
        for word, right, wrong in (
                ("look 2 9", (2, 9), ((1, 9), (2, 10))), ("chr", (32, 126), ((31, 126), (32, 127))), ("tru", (0, 1), ((-1, 1), (0, 2))),
                ("neg", (-MAXINT, MAXINT), ()), ("abs", (-MAXINT, MAXINT), ()), ("sqr", (-46340, 46340), ((-46341, 0), (0, 46341)))):
            self.assertEqual(self.last(f"{self.between(*right)}; {word}"), "whole", word)
            for stretch in wrong:
                self.assertIsNone(self.last(f"{self.between(*stretch)}; {word}"), (word, stretch))
        for word in ("ordt", "ordc", "odd", "not"):
            given = {"ordt": "truth 1", "ordc": "sign 66", "odd": "num 1", "not": "truth 1"}[word]
            self.assertIsNone(self.last(f"{given}; {word}"))

    def test_whole_index(self):
        for stretch, told in (((1, 3), "whole"), ((0, 3), None), ((1, 4), None)):
            self.assertEqual(self.last(f"place 0 3; {self.between(*stretch)}; index 1 3"), told)

    def test_whole_sums(self):
        for word, other, told in (
                ("add", (0, 7), "whole"), ("add", (0, 8), None), ("sub", (-7, 0), "whole"), ("sub", (-8, 0), None),
                ("mul", (0, 1), "whole"), ("mul", (0, 2), None)):
            self.assertEqual(self.last(f"{self.between(1, MAXINT - 7)}; {self.between(*other)}; {word}"), told, (word, other))
        self.assertEqual(self.last(f"{self.between(-MAXINT, 0)}; {self.between(0, MAXINT)}; add"), "whole")
        self.assertIsNone(self.last(f"{self.between(-MAXINT, 0)}; {self.between(0, MAXINT)}; sub"))
        for word, other, told in (("div", (1, 5), "whole"), ("div", (-5, -1), "whole"), ("div", (0, 5), None), ("div", (-1, 5), None),
                                  ("mod", (1, 5), "whole"), ("mod", (0, 5), None), ("mod", (-5, -1), None)):
            self.assertEqual(self.last(f"place 0 0; readn; {self.between(*other)}; {word}"), told, (word, other))

    def test_whole_tables(self):
        rows = "; table 3 1 - 1 1; label 1; leave"
        self.assertEqual(self.words(self.between(5, 6) + rows)[3], "whole")
        for stretch in ((4, 5), (3, 5), (2, 3), (6, 7)):
            self.assertNotIn(3, self.words(self.between(*stretch) + rows))

    def test_whole_loads(self):
        self.assertEqual(self.last("place 0 1; num 3; store; place 0 1; load"), "whole")
        self.assertIsNone(self.last("place 0 3; num 1; index 1 3; load"))
        rows = "place 0 0; eof; unless 1; place 0 1; num 4; store; label 1; place 0 1; load"
        self.assertIsNone(self.last(rows))
        self.assertEqual(self.last(rows + "; drop; place 0 1; load"), "whole")
        # Behind a load that surely traps nothing comes.
        self.assertEqual(self.words("place 0 1; load; drop; leave"), {2: "never", 3: "never"})

    def test_errors(self):
        unit = let(["leave"])
        self.refused(NoProc, "p1", sure_rows, unit, "p1")
        self.assertEqual(sure_rows(unit=unit, proc="p0"), ())


class SetWaysTest(Machines, unittest.TestCase):
    def test_ways(self):
        unit = let("place 0 0; load; drop; place 0 1; load; unless 1; place 0 0; unset; label 1; place 0 0; num 1; store; leave".split("; "), "n t")
        self.assertEqual(set_ways(unit, "p0", 0, 0), ("way", (0,)))
        self.assertEqual(set_ways(unit, "p0", 1, 0), ("way", (0, 1)))
        self.assertEqual(set_ways(unit, "p0", 2, 0), ("set",))
        self.assertEqual(set_ways(unit, "p0", 7, 0), ("set",))
        self.assertEqual(set_ways(unit, "p0", 8, 0), ("way", (0, 1, 2, 3, 4, 5, 6, 7, 8)))
        self.assertEqual(set_ways(unit, "p0", 12, 0), ("set",))
        self.assertEqual(set_ways(unit, "p0", 5, 1), ("set",))
        self.assertEqual(set_ways(unit=unit, proc="p0", row=12, name=1), ("set",))

    def test_rows_that_no_way_comes_to(self):
        unit = let(["leave", "leave"], "n")
        self.assertEqual(set_ways(unit, "p0", 1, 0), ("set",))
        self.assertIs(shows_set_ways(unit, "p0", 1, 0, ("way", (1,))), False)

    def test_takes_and_far(self):
        more = proc("p1", "p0", "n", "-", "n", ["call p2", "leave", "label 4", "leave"]) + proc("p2", "p1", "", "-", "", ["far 1 4"])
        unit = let(["num 1", "call p1", "leave"], more=more)
        self.assertEqual([set_ways(unit, "p1", 0, 0), set_ways(unit, "p1", 1, 0)], [("set",), ("set",)])
        self.assertEqual(set_ways(unit, "p1", 0, 1), ("way", (0,)))
        self.assertEqual([set_ways(unit, "p1", 2, 0), set_ways(unit, "p1", 3, 0)], [("way", (2,)), ("way", (2, 3))])

    def test_loops(self):
        unit = let(LOOP, "<text> n t")
        self.assertEqual([set_ways(unit, "p0", row, 1)[0] for row in range(len(LOOP))], ["way"] * 3 + ["set"] * (len(LOOP) - 3))
        rows = "label 1; place 0 0; num 1; store; truth 1; unless 2; place 0 0; unset; jump 1; label 2; leave".split("; ")
        unit = let(rows, "n")
        self.assertEqual(set_ways(unit, "p0", 10, 0), ("set",))
        self.assertEqual(set_ways(unit, "p0", 8, 0)[0], "way")

    def test_shows(self):
        rows = "truth 1; unless 1; place 0 0; num 1; store; label 1; num 2; drop; leave".split("; ")
        unit = let(rows, "n")
        told = set_ways(unit, "p0", 7, 0)
        self.assertEqual(told, ("way", (0, 1, 5, 6, 7)))
        self.assertIs(shows_set_ways(unit, "p0", 7, 0, told), True)
        for value in (("set",), ("way",), ("way", (0, 1, 2, 3, 4, 5, 6, 7)), ("way", (0, 1, 5, 6)), ("way", [0, 1, 5, 6, 7]),
            ("way", (1, 5, 6, 7)), ("way", ()),
                      ("way", (0, 1, 5, 6, 7), 0), ["way", (0, 1, 5, 6, 7)], ("way", (False, True, 5, 6, 7)), ("way", (0, 5, 6, 7)),
                      ("way", None),
                      ("ways", (0, 1, 5, 6, 7)), None, 3, (), (1,), ("way", (0, 1, 99, 7)), ("way", ("0",))):
            self.assertIs(shows_set_ways(unit, "p0", 7, 0, value), False, value)
        self.assertIs(shows_set_ways(unit, "p0", 5, 0, ("set",)), False)
        self.assertIs(shows_set_ways(unit, "p0", 4, 0, ("way", (0, 1, 2, 3, 4))), True)
        # Any such way is right: also one that goes round.
        round_about = "label 1; num 1; drop; truth 1; unless 2; jump 1; label 2; leave".split("; ")
        unit = let(round_about, "n")
        self.assertIs(shows_set_ways(unit, "p0", 2, 0, ("way", (0, 1, 2, 3, 4, 5, 0, 1, 2))), True)
        self.assertIs(shows_set_ways(unit, "p0", 2, 0, ("set",)), False)
        self.assertIs(shows_set_ways(unit=unit, proc="p0", row=2, name=0, value=("way", (0, 1, 2))), True)
        stored = let("place 0 0; num 1; store; leave".split("; "), "n")
        self.assertIs(shows_set_ways(stored, "p0", 3, 0, ("set",)), True)
        self.assertIs(shows_set_ways(stored, "p0", 3, 0, ("way", (0, 1, 2, 3))), False)

    def test_errors(self):
        unit = let("place 0 1; bind 2; leave".split("; "), "n n &n s")
        for function, value in ((set_ways, ()), (shows_set_ways, (3,))):
            self.refused(NoProc, "p1", function, unit, "p1", 99, 99, *value)
            self.refused(NoRow, 99, function, unit, "p0", 99, 99, *value)
            for name in (1, 2, 3, 4, -1, False, "0", None, 0.0):
                self.refused(BadValue, name, function, unit, "p0", 0, name, *value)
        wrong = Unit("proc p0 -\ntakes\ngives -\nnames\nfiles\nwork 0\ndrop\nleave\nend")
        self.refused(NotLet, checked(wrong), set_ways, wrong, "p9", 0, 0)
        needing = Unit("needs q p0 takes gives -\nproc p0 -\ntakes\ngives -\nnames\nfiles\nwork 0\ndrop\nleave\nend")
        self.refused(NotWhole, ("q",), shows_set_ways, needing, "p9", 0, 0, 0)


if __name__ == "__main__":
    unittest.main()
