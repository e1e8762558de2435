"""Joining of units: pieces of code, each read by itself, put together as one unit."""

from begunended.errors import BadUnits, Clash, Missing, Unfit, Wide
from begunended.flows import is_same_heading
from begunended.unitreading import MOST_LAYOUTS, MOST_PROCS, MOST_SIGNATURES
from begunended.units import Unit

MOST_UNITS = 6
WIDE = 12


def joined(units):
    """The unit that comes of a first unit and pieces."""
    if not are_units(units):
        raise BadUnits(units)
    join = Join(units)
    join.want_no_clash()
    join.find_chains()
    join.want_fit()
    return join.unit_joined()


def are_units(value):
    if not isinstance(value, tuple) or not 1 <= len(value) <= MOST_UNITS:
        return False
    if not all([isinstance(unit, Unit) for unit in value]):
        return False
    return all([is_piece(unit) for unit in value[1:]])


def is_piece(unit):
    """Whether the program of a unit does nothing."""
    program = unit.proc_table[unit.procs[0]]
    return not program.things and not program.outside_names and program.work == 0 and program.rows == ["leave"]


class Join:
    """Units that are joined: their procs by name, each with its OUTER; reached are those that chains lead to."""

    def __init__(self, units):
        self.units = units
        self.main = units[0].procs[0]
        self.procs = {}
        self.outers = {}
        self.reached = {}
        for number, unit in enumerate(units):
            for name in self.procs_told(number):
                self.procs.setdefault(name, unit.proc_table[name])
                self.outers.setdefault(name, self.outer_in(number, unit.outer(name)))

    def procs_told(self, number):
        """The names of the procs that a unit tells; a piece's program is left out."""
        procs = self.units[number].procs
        return procs if number == 0 else procs[1:]

    def outer_in(self, number, name):
        """The proc that a unit means by an OUTER: the program of a piece stands for the first unit's."""
        return self.main if name == self.units[number].procs[0] and number > 0 else name

    def want_no_clash(self):
        """Tells the first name that two units tell otherwise, or of a proc at all."""
        for number, unit in enumerate(self.units):
            for name in unit.layouts:
                self.want_same(name, number, [other.layout_texts.get(name) for other in self.units])
            for name in unit.signatures:
                self.want_same(name, number, [heading_told(other, name) for other in self.units])
            for name in self.procs_told(number):
                for other in range(number + 1, len(self.units)):
                    if name in self.procs_told(other):
                        raise Clash((name, number, other))

    def want_same(self, name, number, told):
        """Wants what units behind one tell of a name to be as it tells; None for what they do not tell."""
        for other in range(number + 1, len(told)):
            if told[other] is not None and told[other] != told[number]:
                raise Clash((name, number, other))

    def find_chains(self):
        """Finds what chains lead to: Missing with the shortest, then least chain to what is told nowhere."""
        chains = {name: (name,) for name in self.units[0].procs}
        newest = dict(chains)
        while newest:
            missing = [newest[name] for name in newest if name not in self.procs]
            if missing:
                raise Missing(min(missing))
            newest = self.chains_behind(newest, chains)
            for name, chain in newest.items():
                chains[name] = chain
        self.reached = chains

    def chains_behind(self, newest, known):
        """The least chains to what is led to behind these, and known by none ahead."""
        found = {}
        for name in newest:
            for other in self.led_to(name):
                chain = (*newest[name], other)
                if other not in known and (other not in found or chain < found[other]):
                    found[other] = chain
        return found

    def led_to(self, name):
        """The procs that the rows of a proc call or hand, and its OUTER."""
        found = [order[1] for order in self.procs[name].orders if order[0] == "call" or order[0] == "hand"]
        return found if self.outers[name] is None else [*found, self.outers[name]]

    def want_fit(self):
        """Tells the first needed name whose proc is another one than is needed."""
        for number, unit in enumerate(self.units):
            for name in unit.needs:
                outer, heading = unit.needed_headings[name]
                if name in self.procs:
                    is_fit = self.outers[name] == self.outer_in(number, outer)
                    if not is_fit or not is_same_heading(heading, self.procs[name]):
                        raise Unfit(name)

    def unit_joined(self):
        """The unit with all that was told."""
        layout_rows = {}
        signature_rows = {}
        for unit in self.units:
            for name in unit.layouts:
                layout_rows[name] = f"layout {name} {unit.layout_texts[name]}"
            for name in unit.signatures:
                signature_rows[name] = "signature " + name + " " + heading_told(unit, name)
        names = [name for name in self.procs if name in self.reached]
        if len(layout_rows) > MOST_LAYOUTS or len(signature_rows) > MOST_SIGNATURES or len(names) > MOST_PROCS:
            raise Wide(WIDE)
        rows = list(layout_rows.values()) + list(signature_rows.values())
        for name in names:
            rows.extend(self.proc_rows(name))
        return Unit("\n".join(rows))

    def proc_rows(self, name):
        proc = self.procs[name]
        outer = self.outers[name]
        rows = [
            "proc " + name + " " + ("-" if outer is None else outer), " ".join(["takes", *proc.takes]),
            "gives " + proc.gives, " ".join(["names", *proc.things[len(proc.takes):]]),
        ]
        if outer is None:
            rows.append(" ".join(["files", *proc.outside_names]))
        return [*rows, "work " + str(proc.work), *proc.rows, "end"]


def heading_told(unit, name):
    """What a unit tells of a signature, None if it does not tell it."""
    heading = unit.signature_headings.get(name)
    return None if heading is None else " ".join(["takes", *heading.takes, "gives", heading.gives])
