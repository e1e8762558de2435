"""Units: texts of code."""

from begunended.errors import BadUnit, NoProc
from begunended.unitreading import UnitReader


class UnitCode:
    """What a unit tells, whatever text it has: its names, and what was read of its rows.

    Layout_texts are the texts of its layouts by name; signature_headings, needed_headings (pairs of the
    OUTER and the heading) and proc_table tell what begunended.unitreading read; table has its layouts.

    What comes of this is found once, when it is first asked for, None ahead of that: flow, proc_walks (of
    begunended.checking), privacy, ends, reckoning and states (of begunended.settling), run_parts.
    """

    def __init__(self, layout_texts, signature_headings, needed_headings, proc_table, table):
        self.layout_texts = layout_texts
        self.signature_headings = signature_headings
        self.needed_headings = needed_headings
        self.proc_table = proc_table
        self.table = table
        self.needs = tuple(list(needed_headings))
        self.procs = tuple(list(proc_table))
        self.flow = None
        self.proc_walks = None
        self.privacy = None
        self.ends = None
        self.reckoning = None
        self.states = None
        self.run_parts = None


class Unit(UnitCode):
    """A unit of a text."""

    def __init__(self, text):
        if not isinstance(text, str):
            raise BadUnit(0)
        reader = UnitReader(text)
        reader.read()
        super().__init__(reader.layouts, reader.signatures, reader.needs, reader.procs, reader.table)
        self.text = text
        self.layouts = tuple(list(reader.layouts))
        self.signatures = tuple(list(reader.signatures))

    def outer(self, proc):
        """The name of the proc around this one, None for the program."""
        around = self.proc_of(proc).around
        return around[1] if len(around) > 1 else None

    def level(self, proc):
        """How many procs are around this one, itself aside."""
        return len(self.proc_of(proc).around) - 1

    def code(self, proc):
        """The rows of code of a proc."""
        return tuple(self.proc_of(proc).rows)

    def proc_of(self, proc):
        """What was read of the proc of this name."""
        if not isinstance(proc, str) or proc not in self.proc_table:
            raise NoProc(proc)
        return self.proc_table[proc]

    def __eq__(self, other):
        return isinstance(other, Unit) and self.text == other.text
