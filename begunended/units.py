"""Units: texts of code."""

from begunended.errors import BadUnit, NoProc
from begunended.unitreading import UnitReader


class Unit:
    """A unit: its text, the names that it tells, and what was read of its rows.

    Layout_texts are the texts of its layouts by name; signature_headings, needed_headings (pairs of the
    OUTER and the heading) and proc_table tell what begunended.unitreading read; table has its layouts.
    """

    def __init__(self, text):
        if not isinstance(text, str):
            raise BadUnit(0)
        reader = UnitReader(text)
        reader.read()
        self.text = text
        self.layouts = tuple(list(reader.layouts))
        self.signatures = tuple(list(reader.signatures))
        self.needs = tuple(list(reader.needs))
        self.procs = tuple(list(reader.procs))
        self.layout_texts = reader.layouts
        self.signature_headings = reader.signatures
        self.needed_headings = reader.needs
        self.proc_table = reader.procs
        self.table = reader.table

    def outer(self, proc):
        """The name of the proc around this one, None for the program."""
        around = self.proc_of(proc).around
        return around[1] if len(around) > 1 else None

    def level(self, proc):
        """How many procs are around this one, itself aside."""
        return len(self.proc_of(proc).around) - 1

    def code(self, proc):
        """The rows of code of a proc."""
        return tuple(self.proc_of(proc).rows)

    def proc_of(self, proc):
        """What was read of the proc of this name."""
        if not isinstance(proc, str) or proc not in self.proc_table:
            raise NoProc(proc)
        return self.proc_table[proc]

    def __eq__(self, other):
        return isinstance(other, Unit) and self.text == other.text
