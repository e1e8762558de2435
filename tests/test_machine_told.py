"""Point 17: run_unit, inputs and errors in their sequence, what a machine tells, its ways back, its copies."""

import unittest

from begunended.checking import checked
from begunended.compiling import compiled
from begunended.errors import BadFuel, BadInputs, BadNumber, NoFrame, NoPlace, NoProc, NoRow, NotLet, NotWhole
from begunended.machine import Machine, run_unit
from begunended.program import Program
from begunended.units import Unit
from tests.machines import LAYOUTS, Machines, proc, unit_of_rows

EXAMPLE = Unit(
    "layout l0 (n,^l0)\nproc p0 -\ntakes\ngives -\nnames ^l0 n\nfiles\nwork 2\n"
    "line 1\nplace 0 0\nnew\nplace 0 1\nnum 7\nstore\nleave\nend")
VALUES = (0, -1, 1.5, "1", None, True, False, (1,), [1], {1: 1}, 100001, Program("program p; begin end."))


class RunUnitTest(Machines, unittest.TestCase):
    def test_fuel(self):
        self.assertEqual(run_unit(EXAMPLE, (), 6), ((), ("done",)))
        self.assertEqual(run_unit(EXAMPLE, (), 5), ((), ("on",)))
        unit = unit_of_rows(["line 4", "num 0", "num 0", "div", "drop", "leave"])
        self.assertEqual(run_unit(unit, (), 3), ((), ("trap", "nought", 4)))
        self.assertEqual(run_unit(unit, (), 2), ((), ("on",)))
        ring = unit_of_rows(["label 1", "jump 1"])
        self.assertEqual(run_unit(ring, (), 100000), ((), ("on",)))
        for fuel in VALUES:
            if not (type(fuel) is int and 1 <= fuel <= 100000):
                self.refused(BadFuel, fuel, run_unit, EXAMPLE, (), fuel)
        self.assertEqual(run_unit(unit=EXAMPLE, inputs=(), fuel=1), ((), ("on",)))

    def test_files_that_were_rewritten(self):
        rows = "place 0 2; rewrite; place 0 0; rewrite; place 0 0; num 5; num 1; writen; place 0 1; reset; place 0 0; reset; leave"
        unit = unit_of_rows(rows.split("; "), "<text> <text> <n> <n>", "zz input b aa")
        self.assertEqual(run_unit(unit, (("input", "x"),), 99), ((("b", ()), ("zz", "5")), ("done",)))
        self.assertEqual(run_unit(unit, (), 99), ((("b", ()), ("zz", "5")), ("trap", "file", 0)))

    def test_errors_in_their_sequence(self):
        needing = Unit("needs q p0 takes gives -\nproc p0 -\ntakes\ngives -\nnames\nfiles\nwork 0\ndrop\nleave\nend")
        self.refused(NotWhole, ("q",), run_unit, needing, 3, 0)
        self.refused(NotWhole, ("q",), Machine, needing, 3)
        wrong = Unit("proc p0 -\ntakes\ngives -\nnames\nfiles\nwork 0\ndrop\nleave\nend")
        self.refused(NotLet, checked(wrong), run_unit, wrong, 3, 0)
        self.refused(NotLet, checked(wrong), Machine, wrong, 3)
        self.refused(BadInputs, 3, run_unit, EXAMPLE, 3, 0)
        self.refused(BadFuel, 0, run_unit, EXAMPLE, (), 0)


class InputsTest(Machines, unittest.TestCase):
    LAYOUT = "<(n,t,c,s,2*n,{(n)|()|(c,{(t)|(t)})})>"
    RIGHT = (1, True, "x", (0, 127), (3, 4), 0, (5,))

    def unit(self):
        names = "<text> <text> " + self.LAYOUT + " <^l0> <n> <2*c>"
        return unit_of_rows(["leave"], names, "input output f g h i")

    def test_right_inputs(self):
        unit = self.unit()
        things = (self.RIGHT, (*self.RIGHT[:5], 1, ()), (*self.RIGHT[:5], 2, ("y", 0, (True,))), (*self.RIGHT[:5], 2, ("y", 1, (False,))))
        for inputs in (
                (), (("input", "ab \n"),), (("f", things), ("input", "")), (("f", ()),), (("g", ()),), (("h", (-2147483647, 2147483647)),),
                (("i", (("a", "b"),)),)):
            machine = Machine(unit, inputs)
            self.assertEqual(machine.inputs, inputs)
            for name, contents in inputs:
                number = ("input", "output", "f", "g", "h", "i").index(name)
                self.assertEqual(machine.contents(1, number), ("closed", contents))

    def test_wrong_inputs(self):
        unit = self.unit()
        wrong_things = [
            None, (), 3, [*self.RIGHT], self.RIGHT[:6], (*self.RIGHT, 1), (True, *self.RIGHT[1:]), (None, *self.RIGHT[1:]),
            (2147483648, *self.RIGHT[1:]), (1, 1, *self.RIGHT[2:]), (1, True, "xy", *self.RIGHT[3:]), (1, True, "\n", *self.RIGHT[3:]),
            (1, True, "x", (3, 2), *self.RIGHT[4:]), (1, True, "x", (128,), *self.RIGHT[4:]), (1, True, "x", [3], *self.RIGHT[4:]),
            (*self.RIGHT[:4], (3,), 0, (5,)), (*self.RIGHT[:4], [3, 4], 0, (5,)), (*self.RIGHT[:5], 3, ()), (*self.RIGHT[:5], -1, ()),
            (*self.RIGHT[:5], None, ()), (*self.RIGHT[:5], True, ()), (*self.RIGHT[:5], 1, (1,)), (*self.RIGHT[:5], 1, None),
            (*self.RIGHT[:5], 0, (5, 6)), (*self.RIGHT[:5], 0, (None,)), (*self.RIGHT[:5], 2, ("y", 0, (1,)))]
        wrong = [
            None, 3, "", [], {}, (3,), (("input",),), (("input", "a", 1),), (["input", "a"],), ((1, "a"),), (("output", ""),), (("z", ""),),
            (("input", ""), ("input", "")), (("input", None),), (("input", ("a",)),), (("input", "\t"),), (("f", "a"),), (("f", None),),
            (("f", []),),
            (("g", ("nil",)),), (("g", (0,)),), (("g", (1,)),), (("h", (None,)),), (("h", (1, True)),), (("i", ("ab",)),)]
        for inputs in [*wrong, *[(("f", (thing,)),) for thing in wrong_things]]:
            self.refused(BadInputs, inputs, Machine, unit, inputs)
            self.refused(BadInputs, inputs, run_unit, unit, inputs, 5)

    def test_inputs_are_closed_at_first(self):
        rows = "place 0 0; reset; place 0 0; window; load; leave".split("; ")
        unit = unit_of_rows([*rows[:-1], "drop", "leave"], "<n>", "f")
        self.assertEqual(run_unit(unit, (("f", (8,)),), 99), ((), ("done",)))
        self.assertEqual(run_unit(unit, (("f", ()),), 99), ((), ("trap", "end", 0)))
        self.assertEqual(run_unit(unit, (), 99), ((), ("trap", "file", 0)))


class ToldTest(Machines, unittest.TestCase):
    def test_the_example(self):
        machine = Machine(EXAMPLE, ())
        told = [machine.at, machine.run(2), machine.at, machine.contents(1, 0), machine.piece(1), machine.run(99), machine.ended,
            machine.steps]
        self.assertEqual(told, [("p0", 0), 2, ("p0", 3), 1, (None, None), 4, ("done",), 6])
        self.assertEqual((machine.unit, machine.inputs), (EXAMPLE, ()))

    def test_ahead_of_each_step(self):
        machine = Machine(EXAMPLE, ())
        found = []
        while machine.ended is None:
            found.append((machine.at, machine.at_line, machine.steps, machine.frames, machine.workspace(), machine.files()))
            machine.step()
        self.assertEqual([row[0][1] for row in found], [0, 2, 3, 4, 5, 6])
        self.assertEqual([row[1] for row in found], [0, 1, 1, 1, 1, 1])
        self.assertEqual([row[2] for row in found], [0, 1, 2, 3, 4, 5])
        self.assertEqual([row[3][0] for row in found], [(1, "p0", 0, 0, row[0][1]) for row in found])
        shapes = {row: shape for _, row, shape in checked(EXAMPLE)[1]}
        for at, _, _, _, workspace, files in found:
            self.assertEqual(tuple([sort for sort, _ in workspace]), shapes[at[1]])
            self.assertEqual(files, ())
        self.assertEqual((machine.at, machine.at_line, machine.frames, machine.workspace()), (None, 0, (), ()))

    def test_contents_by_layout(self):
        names = "n t c s ^l0 3*n (n,2*c) (n,{(t)|()}) &n <text> <(n,c)>"
        machine = Machine(unit_of_rows(["leave"], names), ())
        told = [machine.contents(1, number) for number in range(11)]
        self.assertEqual(told, [
            None, None, None, None, None, (None, None, None), (None, (None, None)), (None, None, ()), None, ("unused", None),
            ("unused", None)])
        rows = "place 0 0; num 3; store; place 0 1; truth 1; store; place 0 2; sign 66; store; place 0 3; set 9; store; place 0 4; nil l0; store"
        machine = self.stood(rows.split("; "), names=names)
        told = [machine.contents(1, number) for number in range(5)]
        self.assertEqual(told, [3, True, "B", (9,), 0])
        self.assertEqual([type(value) for value in told], [int, bool, str, tuple, int])

    def test_no_frames_and_no_places(self):
        machine = Machine(EXAMPLE, ())
        for value in VALUES:
            if value != 1 or value is True:
                self.refused(NoFrame, value, machine.contents, value, 0)
                self.refused(NoFrame, value, machine.linked, value)
        for value in (2, -1, True, False, "0", None, (0,), 1.0):
            self.refused(NoPlace, value, machine.contents, 1, value)
        self.refused(NoFrame, 2, machine.contents, 2, -1)
        for value in (0, 1, True, None, "1", (1,)):
            self.refused(NoPlace, value, machine.piece, value)
        machine.run(2)
        self.assertEqual(machine.piece(1), (None, None))
        for value in (0, 2, True, 1.5):
            self.refused(NoPlace, value, machine.piece, value)
        machine.run(9)
        self.refused(NoFrame, 1, machine.contents, 1, 0)
        self.assertEqual(machine.piece(number=1), (None, None))

    def test_gone_pieces_are_told_no_more(self):
        machine = self.stood("place 0 0; new; place 0 0; load; gone".split("; "), names="^l0")
        self.refused(NoPlace, 1, machine.piece, 1)
        self.assertEqual(machine.contents(1, 0), 1)

    def test_hidden_names(self):
        names = "^l0 ({(n)|(c)}) <n> n &n"
        machine = self.stood("place 0 3; bind 4".split("; "), names=names)
        self.assertEqual(machine.contents(1, 4), None)
        machine = self.stood("place 0 3; num 6; store; place 0 3; bind 4".split("; "), names=names)
        self.assertEqual(machine.contents(1, 4), 6)
        machine = self.stood("place 0 0; new; place 0 0; load; aim; field 0; bind 4".split("; "), names=names)
        self.assertEqual(machine.contents(1, 4), None)
        machine = self.stood("place 0 0; new; place 0 0; load; aim; field 0; bind 4; place 0 0; load; gone".split("; "), names=names)
        self.assertEqual(machine.contents(1, 4), "gone")
        rows = "place 0 1; field 0; become 0; place 0 1; field 0; arm 0; field 0; bind 4; place 0 1; field 0; become 1"
        machine = self.stood(rows.split("; "), names=names)
        self.assertEqual(machine.contents(1, 4), "arm")
        machine = self.stood("place 0 2; window; bind 4".split("; "), names=names, files="")
        self.assertEqual(machine.contents(1, 4), "window")


class RunsTest(Machines, unittest.TestCase):
    LOOP = ["line 2", "place 0 0", "num 4", "store", "label 1", "line 3", "place 0 0", "load", "num 0", "gt", "unless 2",
            "place 0 0", "place 0 0", "load", "num 1", "sub", "store", "jump 1", "label 2", "leave"]

    def machine(self):
        return Machine(unit_of_rows(self.LOOP, "n"), ())

    def test_run(self):
        machine = self.machine()
        self.assertEqual([machine.run(3), machine.run(most=1), machine.at], [3, 1, ("p0", 7)])
        self.assertEqual([machine.run(100000), machine.run(5), machine.ended], [53, 0, ("done",)])
        for value in VALUES:
            if not (type(value) is int and 1 <= value <= 100000):
                self.refused(BadFuel, value, machine.run, value)
                self.refused(BadFuel, value, machine.run_to, "p0", 0, value)

    def test_run_to(self):
        machine = self.machine()
        self.assertIs(machine.run_to("p0", 17, 100), True)
        self.assertEqual([machine.at, machine.steps, machine.contents(1, 0)], [("p0", 17), 14, 3])
        # One step at least.
        self.assertIs(machine.run_to(proc="p0", row=17, most=100), True)
        self.assertEqual([machine.steps, machine.contents(1, 0)], [26, 2])
        self.assertIs(machine.run_to("p0", 17, 5), False)
        self.assertEqual(machine.steps, 31)
        self.assertIs(machine.run_to("p0", 0, 1000), False)
        self.assertEqual(machine.ended, ("done",))
        self.assertIs(machine.run_to("p0", 17, 1), False)
        machine = self.machine()
        # A jump goes behind its label: the row of the label is next where it is come to from above.
        self.assertIs(machine.run_to("p0", 4, 100), True)
        self.assertEqual([machine.steps, machine.at_line], [3, 2])
        self.assertIs(machine.run_to("p0", 4, 100000), False)
        trapping = Machine(unit_of_rows(["num 1", "trap case"]), ())
        self.assertEqual([trapping.run_to("p0", 1, 1), trapping.run_to("p0", 1, 9), trapping.ended], [True, True, ("trap", "case", 0)])
        self.assertEqual([trapping.run_to("p0", 1, 9), trapping.steps], [True, 2])

    def test_wrong_places_to_run_to(self):
        machine = self.machine()
        for value in (None, "p1", 0, True, ("p0",), "P0", ""):
            self.refused(NoProc, value, machine.run_to, value, 99, 0)
        for value in (20, -1, True, "0", None, 1.0):
            self.refused(NoRow, value, machine.run_to, "p0", value, 0)
        self.assertEqual(machine.steps, 0)

    def told(self, machine):
        return machine.at, machine.ended, machine.steps, machine.at_line, self.all_told(machine)

    def test_back_and_on(self):
        machine = self.machine()
        found = [self.told(machine)]
        while machine.ended is None:
            machine.step()
            found.append(self.told(machine))
        for many in (1, 2, 7, 30, len(found) - 1):
            self.assertIsNone(machine.back(many))
            self.assertEqual(self.told(machine), found[-1 - many])
            machine.back(0)
            self.assertEqual(self.told(machine), found[-1 - many])
            self.assertEqual(machine.run(999), many)
            self.assertEqual(self.told(machine), found[-1])
        for number in range(len(found) - 1, 0, -1):
            machine.back(1)
            self.assertEqual(self.told(machine), found[number - 1])

    def test_wrong_numbers_to_go_back(self):
        machine = self.machine()
        machine.run(5)
        for value in (6, -1, True, False, "1", None, 2.0, (1,)):
            self.refused(BadNumber, value, machine.back, value)
        machine.back(many=5)
        self.assertEqual(machine.steps, 0)
        self.refused(BadNumber, 1, machine.back, 1)

    def test_back_through_files_and_pieces(self):
        rows = ("place 0 0; reset; place 0 1; rewrite; place 0 2; place 0 0; readn; store; place 0 3; new; place 0 1; place 0 2; load; num 4; writen;"
                " place 0 3; load; aim; field 0; num 8; store; place 0 3; load; gone; place 0 3; new; place 0 0; readc; drop; place 0 1; writeln;"
                " place 0 0; readn; drop; leave").split("; ")
        machine = Machine(unit_of_rows(rows, "<text> <text> n ^l0", "input output"), (("input", "12 x"),))
        found = [self.told(machine)]
        while machine.ended is None:
            machine.step()
            found.append(self.told(machine))
        self.assertEqual(machine.ended, ("trap", "figures", 0))
        self.assertEqual(machine.files(), (("output", "  12\n"),))
        for back in range(1, len(found)):
            machine.back(back)
            self.assertEqual(self.told(machine), found[-1 - back])
            while machine.ended is None:
                machine.step()
                self.assertEqual(self.told(machine), found[machine.steps])

    def test_long_ways_back(self):
        more = proc("p1", "p0", "n", "-", "n 20*n", [
            *"place 0 0; load; num 0; eq; not; unless 0; place 0 0; load; num 1; sub; call p1; label 0; leave".split("; ")])
        rows = ["place 0 0", "num 40", "store", "label 1", "place 0 0", "load", "call p1", "place 0 0", "place 0 0", "load", "num 1", "sub",
                "dup", "look 0 99", "drop", "store", "place 0 0", "load", "num 0", "eq", "unless 1", "leave"]
        machine = Machine(unit_of_rows(rows, "n", more=more), ())
        found = {}
        while machine.ended is None:
            if machine.steps < 20 or machine.steps - 97 * (machine.steps // 97) == 0:
                found[machine.steps] = self.told(machine)
            machine.step()
        self.assertGreater(machine.steps, 5000)
        last = machine.steps
        for steps in reversed(sorted(found)):
            machine.back(machine.steps - steps)
            self.assertEqual(self.told(machine), found[steps])
        for steps in sorted(found):
            if steps > machine.steps:
                machine.run(steps - machine.steps)
            self.assertEqual(self.told(machine), found[steps])
        self.assertEqual([machine.run(100000) > 0, machine.steps, machine.ended], [True, last, ("done",)])


class CopiesTest(Machines, unittest.TestCase):
    def test_copies_go_by_themselves(self):
        more = proc("p1", "p0", "&n", "-", "", ["place 0 0", "num 6", "store", "leave"])
        rows = "place 0 0; rewrite; place 0 2; new; place 0 1; call p1; place 0 0; num 3; num 1; writen; place 0 2; load; gone; leave".split("; ")
        machine = Machine(unit_of_rows(rows, "<text> n ^l0", "f", more=more), ())
        machine.run(7)
        other = machine.copied()
        self.assertEqual([other == machine, other.steps, other.frames], [True, 7, machine.frames])
        ahead = self.all_told(machine)
        other.run(99)
        self.assertEqual([other.ended, other == machine, machine != other], [("done",), False, True])
        self.assertEqual([self.all_told(machine), machine.contents(2, 0), other.files()], [ahead, None, (("f", "3"),)])
        machine.step()
        self.assertEqual([machine.contents(1, 1), machine.contents(2, 0)], [None, None])
        machine.step()
        self.assertEqual([machine.contents(1, 1), machine.contents(2, 0)], [6, 6])
        other.back(other.steps - 8)
        self.assertEqual(other.contents(1, 1), None)
        third = other.copied()
        third.back(8)
        self.assertEqual([third.steps, other.steps], [0, 8])
        self.assertEqual(third.run(9), 9)
        self.assertEqual(third, machine)

    def test_equality(self):
        machine = Machine(EXAMPLE, ())
        self.assertEqual(machine, Machine(Unit(EXAMPLE.text), ()))
        self.assertNotEqual(machine, Machine(Unit(EXAMPLE.text.replace("num 7", "num 8")), ()))
        self.assertNotEqual(machine, EXAMPLE)
        self.assertNotEqual(machine, None)
        machine.step()
        self.assertNotEqual(machine, Machine(EXAMPLE, ()))
        machine.back(1)
        self.assertEqual(machine, Machine(EXAMPLE, ()))
        unit = unit_of_rows(["leave"], "<n>", "f")
        self.assertEqual(Machine(unit, (("f", (1,)),)), Machine(unit, (("f", (1,)),)))
        self.assertNotEqual(Machine(unit, (("f", (1,)),)), Machine(unit, (("f", (2,)),)))
        self.assertNotEqual(Machine(unit, (("f", ()),)), Machine(unit, ()))
        self.assertTrue(LAYOUTS)

    def test_arguments_by_name(self):
        machine = Machine(unit=EXAMPLE, inputs=())
        self.assertEqual(machine.contents(frame=1, number=0), None)
        self.assertEqual(machine.linked(frame=1), (1,))
        machine.run(most=2)
        machine.back(many=1)
        self.assertEqual(machine.steps, 1)


class PlainUnitsTest(Machines, unittest.TestCase):
    def test_a_program(self):
        text = ("program p(input, output); type r = record case b: boolean of true: (x: integer); false: (c: char) end;\n"
                "var a: r; i: 1..9;\nprocedure q(var n: integer); begin n := n + 1 end;\n"
                "begin a.b := true; a.x := 3;\nfor i := 1 to 2 do q(a.x); writeln(a.x: 2); read(a.x) end.")
        unit = compiled(Program(text))
        self.assertEqual(run_unit(unit, (("input", "x"),), 1000), ((("output", " 5\n"),), ("trap", "figures", 5)))
        machine = Machine(unit, (("input", "x"),))
        machine.run_to("p1", 0, 999)
        self.assertEqual([machine.contents(2, 0), machine.contents(1, 2), machine.contents(1, 3)], [3, (True, 0, (3,)), 1])


if __name__ == "__main__":
    unittest.main()
