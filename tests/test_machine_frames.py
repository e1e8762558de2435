"""Point 17: frames, their links and callers, what calls hand and copy, far, and what ends with a frame."""

import unittest

from begunended.checking import checked
from begunended.machine import Machine, run_unit
from begunended.units import Unit
from tests.machines import Machines, proc, unit_of_rows

ADDS = proc("p1", "p0", "n &n", "n", "n", "place 0 2; place 0 0; load; place 0 1; load; add; store; leave".split("; "))


def machine_of(rows, names="", files="", more=(), inputs=(), signatures=None):
    signatures = ("signature g0 takes n gives n", "signature g1 takes gives -") if signatures is None else signatures
    unit = unit_of_rows(rows.split("; "), names, files, more, signatures)
    assert checked(unit)[0] == "let", checked(unit)
    return Machine(unit, inputs)


class CallsTest(Machines, unittest.TestCase):
    def test_call_and_leave(self):
        machine = machine_of("line 3; place 0 0; num 5; store; num 2; place 0 0; call p1; drop; leave", "n", more=ADDS)
        machine.run(4)
        self.assertEqual(machine.workspace(), (("n", 2),))
        machine.run(1)
        machine.step()
        self.assertEqual(machine.frames, ((2, "p1", 1, 1, 0), (1, "p0", 0, 0, 7)))
        self.assertEqual([machine.at, machine.at_line, machine.workspace()], [("p1", 0), 0, ()])
        self.assertEqual([machine.contents(2, 0), machine.contents(2, 1), machine.contents(2, 2)], [2, 5, None])
        self.assertEqual([machine.linked(2), machine.linked(1)], [(2, 1), (1,)])
        machine.run(7)
        self.assertEqual([machine.at, machine.workspace(), machine.contents(2, 2)], [("p1", 7), (), 7])
        machine.step()
        self.assertEqual([machine.at, machine.workspace(), machine.at_line], [("p0", 7), (("n", 7),), 3])
        self.refused_frame(machine, 2)

    def refused_frame(self, machine, number):
        from begunended.errors import NoFrame
        self.refused(NoFrame, number, machine.contents, number, 0)
        self.refused(NoFrame, number, machine.linked, number)

    def test_numbers_of_frames_are_used_once(self):
        more = proc("p1", "p0", "", "-", "", ["leave"])
        machine = machine_of("call p1; call p1; call p1; leave", more=more)
        found = []
        while machine.ended is None:
            found.append([row[0] for row in machine.frames])
            machine.step()
        self.assertEqual(found, [[1], [2, 1], [1], [3, 1], [1], [4, 1], [1]])

    def test_values_are_copied(self):
        more = proc("p1", "p0", "(n,{(c)|()}) 2*c", "-", "", [
            *"place 0 0; field 0; num 9; store; place 0 0; field 1; become 1; place 0 1; num 1; index 1 2; sign 90; store; leave".split("; ")])
        rows = "place 0 0; field 1; become 0; place 0 0; field 1; arm 0; field 0; sign 65; store; place 0 0; string 66 67; call p1; leave"
        machine = machine_of(rows, "(n,{(c)|()})", more=more)
        machine.run(12)
        self.assertEqual(machine.contents(2, 0), (None, 0, ("A",)))
        self.assertEqual(machine.contents(2, 1), ("B", "C"))
        machine.run(12)
        self.assertEqual([machine.contents(2, 0), machine.contents(2, 1)], [(9, 1, ()), ("Z", "C")])
        self.assertEqual(machine.contents(1, 0), (None, 0, ("A",)))

    def test_copies_trap_as_move_does(self):
        more = proc("p1", "p0", "n (n,^l0)", "-", "", ["leave"])
        held = "num 1; place 0 0; new; place 0 0; load; aim; place 0 0; load; gone; call p1"
        machine = self.traps("gone", held, names="^l0", more=more)
        self.assertEqual(len(machine.frames), 1)
        self.traps("file", "num 1; place 0 0; window; call p1", names="<(n,^l0)>", files="f", more=more)
        self.traps("end", "place 0 0; reset; num 1; place 0 0; window; call p1", names="<(n,^l0)>", files="f", more=more,
                   inputs=(("f", ()),))

    def test_places_from_outside_are_not_looked_at(self):
        more = proc("p1", "p0", "&(n,^l0)", "-", "", ["place 0 0", "field 0", "load", "drop", "leave"])
        machine = machine_of("place 0 0; new; place 0 0; load; aim; place 0 0; load; gone; call p1; leave", "^l0", more=more)
        machine.run(9)
        self.assertEqual(machine.contents(2, 0), "gone")
        machine.run(9)
        self.assertEqual(machine.ended, ("trap", "gone", 0))
        self.assertEqual(machine.at, ("p1", 2))

    def test_what_a_place_from_outside_holds(self):
        more = proc("p1", "p0", "&n &(c)", "-", "", ["leave"])
        rows = ("place 0 0; field 0; become 0; place 0 0; field 0; arm 0; field 0; place 0 0; field 0; become 1;"
                " place 0 1; window; call p1; leave")
        machine = machine_of(rows, "({(n)|(c)}) <(c)>", "", more=more)
        machine.run(13)
        self.assertEqual([machine.contents(2, 0), machine.contents(2, 1)], ["arm", "window"])

    def test_unset_results(self):
        more = proc("p1", "p0", "", "n", "n", ["line 4", "leave"])
        machine = machine_of("line 3; call p1; drop; leave", more=more)
        machine.run(9)
        self.assertEqual([machine.ended, machine.at, machine.steps], [("trap", "unset", 4), ("p1", 1), 2])
        self.assertEqual(len(machine.frames), 2)

    def test_results_of_all_sorts(self):
        for sort, row, value in (("t", "truth 1", True), ("c", "sign 65", "A"), ("s", "set 3", (3,)), ("^l0", "nil l0", 0)):
            more = proc("p1", "p0", "", sort, sort, ["place 0 0", row, "store", "leave"])
            machine = machine_of("call p1; drop; leave", more=more)
            machine.run(5)
            self.assertEqual(machine.workspace(), ((sort, value),))


class LinksTest(Machines, unittest.TestCase):
    # p1 in p0, p2 in p1, p3 in p2: each calls as far out as it can.
    NESTED = [
        *proc("p1", "p0", "", "-", "n", "place 0 0; num 1; store; call p2; leave".split("; ")),
        *proc("p2", "p1", "", "-", "n",
              "place 1 0; load; num 2; ge; unless 0; leave; label 0; place 1 0; num 2; store; call p3; leave".split("; ")),
        *proc("p3", "p2", "", "-", "", "place 3 0; num 8; store; call p2; call p1; leave".split("; ")),
    ]

    def test_links_of_calls(self):
        machine = machine_of("call p1; leave", "n", more=self.NESTED)
        seen = {}
        while machine.ended is None and len(machine.frames) < 9:
            for number, name, link, caller, _ in machine.frames:
                seen[number] = (name, link, caller)
                self.assertEqual(machine.linked(number)[1:], machine.linked(link) if link else ())
            machine.step()
        self.assertEqual([seen[number] for number in range(1, 8)], [
            ("p0", 0, 0), ("p1", 1, 1), ("p2", 2, 2), ("p3", 3, 3), ("p2", 2, 4), ("p1", 1, 4), ("p2", 6, 6)])
        self.assertEqual(machine.contents(1, 0), 8)

    def test_handed_procs_keep_their_frames(self):
        # p1(n) hands p2, which is told in it, to the next p1; at the last one that of the first is called.
        signatures = ("signature g0 takes gives n",)
        more = [
            *proc("p1", "p0", "@g0 n", "n", "n", [
                *"place 0 1; load; num 0; eq; unless 0; place 0 2; handed 0 0; callh g0; store; leave; label 0".split("; "),
                *"place 0 2; hand p2 g0; place 0 1; load; num 1; sub; call p1; store; leave".split("; ")]),
            *proc("p2", "p1", "", "n", "n", ["place 0 0", "place 1 1", "load", "store", "leave"]),
            *proc("p3", "p0", "", "n", "n", ["place 0 0", "num 77", "store", "leave"]),
        ]
        rows = "place 0 0; hand p3 g0; num {}; call p1; store; leave"
        for many, told in ((0, 77), (1, 1), (4, 1)):
            machine = machine_of(rows.format(many), "n", more=more, signatures=signatures)
            while machine.at != ("p0", 4):
                machine.step()
            self.assertEqual(machine.workspace()[1], ("n", told))
        machine = machine_of(rows.format(1), "n", more=more, signatures=signatures)
        machine.run_to("p1", 5, 100)
        self.assertEqual(machine.contents(3, 0), ("p2", 2))
        machine.run_to("p1", 7, 100)
        self.assertEqual(machine.workspace(), (("a[n]", ("name", 3, 2)), ("@g0", ("p2", 2))))
        machine.step()
        self.assertEqual([machine.frames[0][:4], machine.linked(4)], [(4, "p2", 2, 3), (4, 2, 1)])

    def test_hand_finds_frames_further_out(self):
        more = [
            *proc("p1", "p0", "", "-", "", ["call p2", "leave"]),
            *proc("p2", "p1", "", "-", "", ["hand p3 g1", "callh g1", "hand p2 g1", "drop", "hand p1 g1", "drop", "leave"]),
            *proc("p3", "p1", "", "-", "", ["leave"]),
        ]
        machine = machine_of("call p1; leave", more=more)
        machine.run(3)
        self.assertEqual(machine.workspace(), (("@g1", ("p3", 2)),))
        machine.step()
        self.assertEqual(machine.frames[0][:4], (4, "p3", 2, 3))
        machine.run(2)
        self.assertEqual(machine.workspace(), (("@g1", ("p2", 2)),))
        machine.run(2)
        self.assertEqual(machine.workspace(), (("@g1", ("p1", 1)),))


class DeepTest(Machines, unittest.TestCase):
    def test_deep(self):
        more = proc("p1", "p0", "", "-", "", ["line 4", "call p1", "leave"])
        machine = machine_of("line 2; call p1; leave", more=more)
        self.assertEqual(machine.run(500), 200)
        self.assertEqual([machine.ended, len(machine.frames), machine.at], [("trap", "deep", 4), 200, ("p1", 1)])
        self.assertEqual(machine.frames[0][0], 200)
        machine.back(1)
        self.assertEqual([machine.ended, len(machine.frames)], [None, 200])

    def test_just_deep_enough(self):
        # The frame with number 200 leaves: 198 further calls of p1, each with one less.
        more = proc("p1", "p0", "n", "-", "", "place 0 0; load; num 0; eq; not; unless 0; place 0 0; load; num 1; sub; call p1; label 0; leave".split("; "))
        for many, end in ((198, ("done",)), (199, ("trap", "deep", 0))):
            unit = unit_of_rows(f"num {many}; call p1; leave".split("; "), more=more)
            self.assertEqual(run_unit(unit, (), 10000)[1], end)

    def test_deep_comes_first(self):
        more = proc("p1", "p0", "&(n,^l0) (n,^l0)", "-", "", "place 0 0; dup; call p1; leave".split("; "))
        rows = "place 0 0; new; place 0 0; load; aim; dup; place 0 0; load; gone; place 0 0; new; call p1; leave"
        machine = machine_of(rows, "^l0", more=more)
        machine.run(4000)
        self.assertEqual(machine.ended, ("trap", "gone", 0))
        handed = [
            *proc("p1", "p0", "@g0 n", "n", "n", "place 0 2; handed 0 0; place 0 1; load; callh g0; drop; handed 0 0; num 1; call p1; store; leave".split("; ")),
            *proc("p2", "p0", "n", "n", "n", "place 0 1; num 1; store; leave".split("; ")),
        ]
        machine = machine_of("hand p2 g0; num 1; call p1; drop; leave", more=handed)
        machine.run(9999)
        self.assertEqual([machine.ended, machine.at], [("trap", "deep", 0), ("p1", 4)])


class FarTest(Machines, unittest.TestCase):
    MORE = [
        *proc("p1", "p0", "", "-", "<n>", ["line 5", "place 0 0", "rewrite", "num 1", "call p2", "drop", "leave"]),
        *proc("p2", "p1", "", "-", "<text>", ["line 6", "place 0 0", "rewrite", "call p3", "leave"]),
        *proc("p3", "p2", "", "-", "", ["line 7", "num 4", "far 3 2"]),
    ]

    def test_far_out_of_frames(self):
        machine = machine_of("line 3; num 9; call p1; drop; leave; label 2; line 4; leave", more=self.MORE)
        machine.run(10)
        self.assertEqual([len(machine.frames), machine.at], [4, ("p3", 2)])
        self.assertEqual(machine.workspace(), (("n", 4),))
        self.assertEqual([machine.contents(2, 0), machine.contents(3, 0)], [("writing", ()), ("writing", "")])
        machine.step()
        self.assertEqual([machine.frames, machine.at, machine.workspace()], [((1, "p0", 0, 0, 6),), ("p0", 6), ()])
        self.assertEqual(machine.at_line, 3)
        machine.step()
        self.assertEqual([machine.ended, machine.steps], [("done",), 12])
        machine.back(2)
        self.assertEqual([machine.contents(2, 0), machine.contents(3, 0)], [("writing", ()), ("writing", "")])
        self.assertEqual(machine.linked(4), (4, 3, 2, 1))

    def test_far_goes_by_links(self):
        # The label is that of the frame in which the proc was handed, though a newer one of p1 is there.
        signatures = ("signature g0 takes gives -",)
        more = [
            *proc("p1", "p0", "@g0 n", "-", "", [
                *"place 0 1; load; num 0; eq; unless 0; handed 0 0; callh g0; leave; label 0".split("; "),
                *"hand p2 g0; place 0 1; load; num 1; sub; call p1; leave; label 1; line 9; leave".split("; ")]),
            *proc("p2", "p1", "", "-", "", ["far 1 1"]),
            *proc("p3", "p0", "", "-", "", ["leave"]),
        ]
        machine = machine_of("hand p3 g0; num 2; call p1; leave", more=more, signatures=signatures)
        self.assertTrue(machine.run_to("p2", 0, 1000))
        self.assertEqual([row[:4] for row in machine.frames], [(5, "p2", 3, 4), (4, "p1", 1, 3), (3, "p1", 1, 2), (2, "p1", 1, 1),
            (1, "p0", 0, 0)])
        machine.step()
        self.assertEqual([row[0] for row in machine.frames], [3, 2, 1])
        self.assertEqual(machine.at, ("p1", 17))
        machine.run(99)
        self.assertEqual(machine.ended, ("done",))

    def test_numbers_go_on_behind_far(self):
        more = proc("p1", "p0", "", "-", "", ["far 1 2"])
        machine = machine_of("call p1; leave; label 2; place 0 0; load; unless 3; leave; label 3; place 0 0; truth 1; store; call p1; leave", "t", more=more)
        # The first time the name is unset: it traps; set ahead, it comes back.
        machine.run(99)
        self.assertEqual(machine.ended, ("trap", "unset", 0))
        machine = machine_of("place 0 0; truth 0; store; call p1; leave; label 2; place 0 0; load; unless 3; leave; label 3; place 0 0; truth 1; store; call p1; leave", "t", more=more)
        numbers = []
        while machine.ended is None:
            numbers.append(machine.frames[0][0])
            machine.step()
        self.assertEqual(sorted(set(numbers)), [1, 2, 3])


class FilesOfFramesTest(Machines, unittest.TestCase):
    def test_files_of_frames_are_fresh(self):
        more = proc("p1", "p0", "", "-", "<text>", "place 0 0; rewrite; place 0 0; sign 65; num 1; writec; leave".split("; "))
        machine = machine_of("call p1; call p1; leave", more=more)
        machine.run(1)
        self.assertEqual(machine.contents(2, 0), ("unused", None))
        machine.run(6)
        self.assertEqual(machine.contents(2, 0), ("writing", "A"))
        machine.run(2)
        self.assertEqual(machine.contents(3, 0), ("unused", None))
        self.assertEqual(machine.files(), ())

    def test_files_from_outside(self):
        more = proc("p1", "p0", "&<text>", "-", "", "place 0 0; rewrite; place 0 0; sign 65; num 1; writec; leave".split("; "))
        machine = machine_of("place 0 0; call p1; leave", "<text>", "f", more=more)
        machine.run(6)
        self.assertEqual([machine.contents(2, 0), machine.contents(1, 0)], [("writing", "")] * 2)
        self.assertEqual(machine.workspace(), (("a[<text>]", ("name", 1, 0)), ("c", "A")))
        machine.run(9)
        self.assertEqual([machine.ended, machine.files()], [("done",), (("f", "A"),)])


class ReadBackTest(Machines, unittest.TestCase):
    def test_units_of_no_things(self):
        unit = Unit("proc p0 -\ntakes\ngives -\nnames\nfiles\nwork 0\nleave\nend")
        machine = Machine(unit, ())
        self.assertEqual([machine.frames, machine.at, machine.steps], [((1, "p0", 0, 0, 0),), ("p0", 0), 0])
        self.assertEqual([machine.step(), machine.frames], [("done",), ()])


if __name__ == "__main__":
    unittest.main()
