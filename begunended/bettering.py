"""Bettering: the code of a unit as passes turn it, with what became of each of its rows."""

from begunended.plaincode import row_text
from begunended.surepasses import SurePasses
from begunended.turns import LONGEST, JumpRows, Turning, labels_of_order
from begunended.unitreading import MOST_ROWS
from begunended.units import Unit

SURE_PASSES = ("looks", "tests", "folded", "unread")
TURN_PASSES = ("sums", "pairs", "again")
ROW_PASSES = ("lines", "jumps")
PASSES = ("looks", "tests", "folded", "unread", "sums", "pairs", "again", "lines", "jumps", "dead")


class PassRow:
    """A row of code: its order, the number that it had at first, None for a new one.

    Named are the labels that it named since the pass began.
    """

    def __init__(self, order, origin):
        self.order = order
        self.origin = origin
        self.named = {}


class Bettering:
    """A unit and its code as it is now; led_over are (proc, first number) of rows jump that others were led over.

    Unread_names are pairs of a proc and the number of a name of which stores were put out.
    """

    def __init__(self, unit):
        self.unit = unit
        self.codes = {}
        self.led_over = {}
        self.unread_names = {}
        for name, proc in unit.proc_table.items():
            self.codes[name] = [PassRow(order, row) for row, order in enumerate(proc.orders)]

    def do_pass(self, word):
        """Does a pass over all procs."""
        if word in SURE_PASSES:
            self.do_sure_pass(word)
            return
        for name in list(self.codes):
            if word in TURN_PASSES:
                self.do_turns(word, name)
            elif word == "dead":
                self.put_out_dead(name)
            else:
                self.do_row_turns(word, name)

    def do_sure_pass(self, word):
        """Turns all rows of which the claims tell enough, as long as no proc has too many rows."""
        sure = SurePasses(unit_with(self.unit, self.codes))
        for name in list(self.codes):
            rows = self.codes[name]
            found = []
            many = len(rows)
            for at, row in enumerate(rows):
                told = sure_turn(sure, word, name, at)
                if told is None or many + len(told) - 1 > MOST_ROWS:
                    found.append(row)
                    continue
                if word == "unread":
                    self.unread_names[(name, sure.unread_name(name, at))] = True
                many += len(told) - 1
                found.extend([PassRow(order, None) for order in told])
            self.codes[name] = found

    def do_turns(self, word, name):
        """Turns rows that stand behind one another, from row 0 anew behind each turn."""
        turning = Turning(self.unit, name)
        rows = self.codes[name]
        at = 0
        while at < len(rows):
            orders = [row.order for row in rows[at:at + LONGEST]]
            turn = turn_found(turning, word, orders)
            if turn is None:
                at += 1
                continue
            made = []
            for order, kept in zip(turn.rows, turn.kept):
                made.append(PassRow(order, None) if kept is None else rows[at + kept])
            rows[at:at + turn.many] = made
            # No turn further ahead looks at rows from here on.
            at = max(0, at - LONGEST + 1)

    def do_row_turns(self, word, name):
        """Does the turns of lines and jumps, from row 0 anew behind each."""
        rows = JumpRows(self.codes[name], self.far_labels_of(name))
        for row in self.codes[name]:
            row.named = {label: True for label in labels_of_order(row.order)}
        at = 0
        while at < len(self.codes[name]):
            is_turned = rows.is_line_turned(at) if word == "lines" else rows.is_jump_turned(at)
            at = 0 if is_turned else at + 1
        for row in rows.led_over:
            if row.origin is not None:
                self.led_over[(name, row.origin)] = True

    def put_out_dead(self, name):
        """Puts all rows out that are not reached."""
        reached = JumpRows(self.codes[name], self.far_labels_of(name)).rows_reached()
        self.codes[name] = [row for at, row in enumerate(self.codes[name]) if at in reached]

    def far_labels_of(self, name):
        """The dict of the labels of a proc that rows far name."""
        labels = {row.order[1]: True for row in self.codes[name] if row.order[0] == "label"}
        found = {}
        for other, rows in self.codes.items():
            around = self.unit.proc_table[other].around
            for row in rows:
                order = row.order
                if order[0] == "far" and order[1] < len(around) and around[order[1]] == name and order[2] in labels:
                    found[order[2]] = True
        return found


def sure_turn(sure, word, name, at):
    """The rows that come of a row by a pass over claims, None if it stays."""
    if word == "looks":
        return sure.looks(name, at)
    if word == "tests":
        return sure.tests(name, at)
    return sure.folded(name, at) if word == "folded" else sure.unread(name, at)


def turn_found(turning, word, orders):
    """The first turn of a pass that goes at the first of these rows, or None."""
    if word == "sums":
        return turning.sums(orders)
    return turning.pairs(orders) if word == "pairs" else turning.again(orders)


def unit_with(unit, codes):
    """A unit with other code, all else as it is written."""
    found = []
    is_head = True
    for row in unit.text.split("\n"):
        if row.startswith("proc "):
            is_head = True
            name = row.split(" ")[1]
        if is_head or row == "end":
            found.append(row)
        if row.startswith("work "):
            is_head = False
            found.extend([row_text(passed.order) for passed in codes[name]])
    return Unit("\n".join(found))
