"""Bettering: the code of a unit as passes turn it, with what became of each of its rows."""

from begunended.plaincode import rows_text
from begunended.surepasses import SurePasses, may_turn
from begunended.turns import LONGEST, JumpRows, Turning
from begunended.unitreading import MOST_ROWS, Proc
from begunended.units import Unit, UnitCode

SURE_PASSES = ("looks", "tests", "folded", "unread")
TURN_PASSES = ("sums", "pairs", "again")
ROW_PASSES = ("lines", "jumps")
PASSES = ("looks", "tests", "folded", "unread", "sums", "pairs", "again", "lines", "jumps", "dead")


class PassRow:
    """A row of code: its order, the number that it had at first, None for a new one.

    Named are the labels that it named since a pass over jumps began, None for a row that names none.
    """

    def __init__(self, order, origin):
        self.order = order
        self.origin = origin
        self.named = None


class Bettering:
    """A unit and its code as it is now; led_over are (proc, first number) of rows jump that others were led over.

    Unread_names are pairs of a proc and the number of a name of which stores were put out. Code_now is what the
    unit is with its code as it is now, None until it is asked for behind a change.
    """

    def __init__(self, unit):
        self.unit = unit
        self.code_now = unit
        self.is_changed = False
        self.codes = {}
        self.led_over = {}
        self.unread_names = {}
        for name, proc in unit.proc_table.items():
            self.codes[name] = [PassRow(order, row) for row, order in enumerate(proc.orders)]

    def mark_changed(self):
        """Keeps in mind that rows were turned."""
        self.code_now = None
        self.is_changed = True

    def made_unit(self):
        """The unit that comes of all passes."""
        return unit_with(self.unit, self.codes) if self.is_changed else self.unit

    def do_pass(self, word):
        """Does a pass over all procs."""
        if word in SURE_PASSES:
            self.do_sure_pass(word)
            return
        for name in list(self.codes):
            if word in TURN_PASSES:
                self.do_turns(word, name)
            elif word == "dead":
                self.put_out_dead(name)
            else:
                self.do_row_turns(word, name)

    def do_sure_pass(self, word):
        """Turns all rows of which the claims tell enough, as long as no proc has too many rows."""
        if self.code_now is None:
            self.code_now = code_with(self.unit, self.codes)
        sure = SurePasses(self.code_now)
        for name in list(self.codes):
            rows = self.codes[name]
            found = []
            many = len(rows)
            for at, row in enumerate(rows):
                told = sure_turn(sure, word, name, at) if may_turn(word, row.order) else None
                if told is None or many + len(told) - 1 > MOST_ROWS:
                    found.append(row)
                    continue
                if word == "unread":
                    self.unread_names[(name, sure.unread_name(name, at))] = True
                many += len(told) - 1
                self.mark_changed()
                found.extend([PassRow(order, None) for order in told])
            self.codes[name] = found

    def do_turns(self, word, name):
        """Turns rows that stand behind one another, from row 0 anew behind each turn."""
        turning = Turning(self.unit, name)
        beginnings = turning.beginnings(word)
        rows = self.codes[name]
        at = 0
        while at < len(rows):
            if rows[at].order[0] not in beginnings:
                at += 1
                continue
            orders = [row.order for row in rows[at:at + LONGEST]]
            turn = turn_found(turning, word, orders)
            if turn is None:
                at += 1
                continue
            made = []
            for order, kept in zip(turn.rows, turn.kept):
                made.append(PassRow(order, None) if kept is None else rows[at + kept])
            rows[at:at + turn.many] = made
            self.mark_changed()
            # No turn further ahead looks at rows from here on.
            at = max(0, at - LONGEST + 1)

    def do_row_turns(self, word, name):
        """Does the turns of lines and jumps."""
        rows = JumpRows(self.codes[name], self.far_labels_of(name))
        many = rows.turn_lines() if word == "lines" else rows.turn_jumps()
        if many > 0:
            self.mark_changed()
        for row in rows.led_over:
            if row.origin is not None:
                self.led_over[(name, row.origin)] = True

    def put_out_dead(self, name):
        """Puts all rows out that are not reached."""
        reached = JumpRows(self.codes[name], self.far_labels_of(name)).rows_reached()
        if len(reached) < len(self.codes[name]):
            self.codes[name] = [row for at, row in enumerate(self.codes[name]) if at in reached]
            self.mark_changed()

    def far_labels_of(self, name):
        """The dict of the labels of a proc that rows far name."""
        labels = {row.order[1]: True for row in self.codes[name] if row.order[0] == "label"}
        found = {}
        for other, rows in self.codes.items():
            around = self.unit.proc_table[other].around
            for row in rows:
                order = row.order
                if order[0] == "far" and order[1] < len(around) and around[order[1]] == name and order[2] in labels:
                    found[order[2]] = True
        return found


def sure_turn(sure, word, name, at):
    """The rows that come of a row by a pass over claims, None if it stays."""
    if word == "looks":
        return sure.looks(name, at)
    if word == "tests":
        return sure.tests(name, at)
    return sure.folded(name, at) if word == "folded" else sure.unread(name, at)


def turn_found(turning, word, orders):
    """The first turn of a pass that goes at the first of these rows, or None."""
    if word == "sums":
        return turning.sums(orders)
    return turning.pairs(orders) if word == "pairs" else turning.again(orders)


def unit_with(unit, codes):
    """The unit with other code, all else as it is written."""
    rows = unit.text.split("\n")
    at = len(unit.layouts) + len(unit.signatures) + len(unit.needs)
    known = {}
    found = rows[:at]
    for name, proc in unit.proc_table.items():
        # A program has the row files, too.
        begin = at + (5 if len(proc.around) > 1 else 6)
        found.extend(rows[at:begin])
        for order, told in zip(proc.orders, proc.rows):
            known[order] = told
        found.extend(rows_text([row.order for row in codes[name]], known))
        found.append("end")
        at = begin + len(proc.rows) + 1
    return Unit("\n".join(found))


def code_with(unit, codes):
    """What a unit is with other code, without a text."""
    procs = {}
    for name, proc in unit.proc_table.items():
        other = Proc(proc.around)
        other.takes = proc.takes
        other.gives = proc.gives
        other.things = proc.things
        other.outside_names = proc.outside_names
        other.work = proc.work
        other.orders = [row.order for row in codes[name]]
        other.labels = {order[1]: at for at, order in enumerate(other.orders) if order[0] == "label"}
        procs[name] = other
    return UnitCode(unit.layout_texts, unit.signature_headings, unit.needed_headings, procs, unit.table)
