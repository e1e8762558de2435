"""For test cases: units of a few rows, and machines that do them."""

from begunended.machine import Machine
from begunended.units import Unit
from tests.common import Refusing

LAYOUTS = ("layout l0 (n,^l0)", "layout l1 2000*n", "layout l2 (t,{(n,c)|()|(s)})", "layout l3 2*c")
SIGNATURES = ("signature g0 takes n gives n", "signature g1 takes gives -")


def unit_of_rows(rows, names="", files="", more=(), signatures=SIGNATURES):
    """A unit whose program has these names, files and rows; more are the rows of further procs."""
    head = ["proc p0 -", "takes", "gives -", ("names " + names).strip(), ("files " + files).strip(), "work 99"]
    return Unit("\n".join([*LAYOUTS, *signatures, *head, *rows, "end", *more]))


def proc(name, outer, takes, gives, names, rows):
    """The rows of a further proc."""
    head = [f"proc {name} {outer}", ("takes " + takes).strip(), "gives " + gives, ("names " + names).strip(), "work 99"]
    return [*head, *rows, "end"]


def told_steps(rows):
    """How many rows are steps, where none jumps."""
    return len([row for row in rows if row.split(" ")[0] not in ("line", "label")])


class Machines(Refusing):
    """For test cases: what lies on the workspace behind rows, and how they trap."""

    def stood(self, rows, names="", files="", inputs=(), more=()):
        """A machine behind these rows, behind which it would trap."""
        unit = unit_of_rows([*rows, "trap case"], names, files, more)
        machine = Machine(unit, inputs)
        many = told_steps(rows)
        self.assertEqual(machine.run(max(many, 1)), max(many, 1), rows)
        self.assertIsNone(machine.ended, (rows, machine.ended))
        self.assertEqual(machine.steps, many)
        return machine

    def leaves(self, workspace, *rows, **told):
        """What lies there behind rows, each of which may be several, parted by semicolons."""
        machine = self.stood(parted(rows), **told)
        self.assertEqual(machine.workspace(), workspace, rows)
        for _, value in machine.workspace():
            self.assertIn(type(value), (int, bool, str, tuple))
        return machine

    def traps(self, word, *rows, **told):
        """That the last of the rows traps, and that all lies there as it lay ahead of it."""
        rows = parted(rows)
        names, files = told.get("names", ""), told.get("files", "")
        unit = unit_of_rows(["line 7", *rows, "line 8", "trap case"], names, files, told.get("more", ()))
        machine = Machine(unit, told.get("inputs", ()))
        many = told_steps(rows)
        if many > 1:
            self.assertEqual(machine.run(many - 1), many - 1, (rows, machine.ended))
        self.assertIsNone(machine.ended, (rows, machine.ended))
        ahead = self.all_told(machine)
        self.assertEqual(machine.step(), ("trap", word, machine.at_line), rows)
        self.assertEqual(machine.steps, many)
        self.assertEqual(machine.at, ("p0", len(rows)), rows)
        self.assertEqual(self.all_told(machine)[1:], ahead[1:], rows)
        self.assertEqual(machine.step(), machine.ended)
        self.assertEqual((machine.steps, machine.run(5)), (many, 0))
        return machine

    def all_told(self, machine):
        """All that can be asked of a machine, but where it stands."""
        things = {}
        for number, name, *_ in machine.frames:
            for thing in range(len(machine.unit.proc_table[name].things)):
                things[number, thing] = machine.contents(number, thing)
        pieces = {number: machine.piece(number) for number, *_ in machine.engine.heap.pieces}
        linked = [machine.linked(number) for number, *_ in machine.frames]
        return (
            (machine.at, machine.at_line, machine.steps), [row[:4] for row in machine.frames], machine.workspace(), machine.files(), things,
            pieces, linked)


def parted(rows):
    return [part for row in rows for part in row.split("; ")]
