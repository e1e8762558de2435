"""Turns: rows that stand directly behind one another, and those that they become."""

from begunended.flows import LAST
from begunended.worked import TELLING, worked_out

OTHERS = ("nil", "string", "dup")
NOTHING = (("not", "not"), ("neg", "neg"))
CONTRARY = {
    "eq": "ne", "ne": "eq", "lt": "ge", "ge": "lt", "le": "gt", "gt": "le", "same": "unlike", "unlike": "same",
    "seq": "sne", "sne": "seq",
}
# Further orders with which turns of pairs begin.
PAIRED = ("nil", "string", "dup", "place", "not", "neg", "look", "within")
LONGEST = 4
# Rows that name labels of their own proc.
WAYS = {"jump": True, "unless": True, "table": True}


class Turn:
    """A turn: how many rows go, which of them stay among those that come, and the rows that come.

    Kept are the numbers, among the rows that go, of those that stay, None for a row that is a new one.
    """

    def __init__(self, many, rows, kept):
        self.many = many
        self.rows = rows
        self.kept = kept


def turn_into(many, row):
    """A turn of so many rows into a new one."""
    return Turn(many, [row], [None])


def no_rows(many):
    """A turn that puts so many rows out."""
    return Turn(many, [], [])


class Turning:
    """A proc of a unit at whose rows turns are looked for."""

    def __init__(self, unit, name):
        self.procs = unit.proc_table
        self.proc = unit.proc_table[name]

    def beginnings(self, word):
        """The dict of the orders with which turns of a pass begin."""
        if word == "sums":
            return dict(TELLING)
        if word == "again":
            return {"place": True}
        return {one: True for one in (*list(TELLING), *list(CONTRARY), *PAIRED)}

    def is_bound_place(self, order):
        """Whether this is a row place of no &L."""
        if order[0] != "place":
            return False
        if order[1] >= len(self.proc.around):
            return True
        things = self.procs[self.proc.around[order[1]]].things
        return order[2] >= len(things) or not things[order[2]].startswith("&")

    def sums(self, orders):
        """The turn of the pass sums over the first of these rows, or None."""
        if orders[0][0] not in TELLING or len(orders) < 2:
            return None
        if len(orders) > 2 and orders[1][0] in TELLING:
            found = worked_out(orders[2], orders[:2])
            if found is not None:
                return turn_into(3, found)
        found = worked_out(orders[1], orders[:1])
        return turned_way(orders[0], orders[1]) if found is None else turn_into(2, found)

    def pairs(self, orders):
        """The turn of the pass pairs."""
        if len(orders) < 2:
            return None
        one, other = orders[:2]
        if other == ("drop",) and (one[0] in TELLING or one[0] in OTHERS or self.is_bound_place(one)):
            return no_rows(2)
        if (one[0], other[0]) in NOTHING:
            return no_rows(2)
        if one == ("num", 0) and other[0] in ("add", "sub") or one == ("num", 1) and other == ("mul",):
            return no_rows(2)
        if one[0] == "look" and other[0] == "look" and other[1] <= one[1] and one[2] <= other[2]:
            return Turn(2, [one], [0])
        if one[0] == "within" and one == other:
            return Turn(2, [one], [0])
        if one[0] in CONTRARY and other == ("not",):
            return turn_into(2, (CONTRARY[one[0]],))
        return None

    def again(self, orders):
        """The turn of the pass again."""
        one = orders[0]
        if one[0] != "place":
            return None
        if orders[1:] == [("load",), one, ("load",)]:
            return Turn(4, [one, ("load",), ("dup",)], [0, None, None])
        if orders[1:2] == [one] and self.is_bound_place(one):
            return Turn(2, [one, ("dup",)], [0, None])
        return None


def turned_way(one, other):
    """The turn of a told truth ahead of unless, or of a number ahead of table."""
    if one[0] == "truth" and other[0] == "unless":
        return no_rows(2) if one[1] == 1 else turn_into(2, ("jump", other[1]))
    if one[0] == "num" and other[0] == "table":
        at = one[1] - other[1]
        if 0 <= at < len(other[2]) and other[2][at] is not None:
            return turn_into(2, ("jump", other[2][at]))
    return None


class JumpRows:
    """The rows of a proc, of which each has its order, and the labels that it named in this pass.

    Far_labels are those that rows far name; many_naming tells how often rows jump, unless and table name labels,
    label_rows the rows of labels, None behind each row that was put out.
    """

    def __init__(self, rows, far_labels):
        self.rows = rows
        self.far_labels = far_labels
        self.led_over = []
        self.many_naming = {}
        self.label_rows = None
        for row in rows:
            if row.order[0] in WAYS:
                row.named = {label: True for label in labels_of_order(row.order)}
                self.count_names(row.order, 1)

    def count_names(self, order, more):
        """Counts the labels that a row names as so often more."""
        for label in labels_of_order(order):
            self.many_naming[label] = self.many_naming.get(label, 0) + more

    def order_at(self, at):
        """The order at a row, one that is none behind the last row."""
        return self.rows[at].order if at < len(self.rows) else ("",)

    def row_of(self, label):
        """The number of the row of a label."""
        if self.label_rows is None:
            self.label_rows = {row.order[1]: at for at, row in enumerate(self.rows) if row.order[0] == "label"}
        return self.label_rows[label]

    def row_behind(self, at, words):
        """The number of the first row from here on that is none of these words."""
        while self.order_at(at)[0] in words:
            at += 1
        return at

    def put_out(self, at):
        self.count_names(self.rows[at].order, -1)
        self.label_rows = None
        del self.rows[at]

    def turn_lines(self):
        """Does all turns of lines: how many. One turn makes no row ahead of it go that did not."""
        many = 0
        at = 0
        while at < len(self.rows):
            if self.is_line_turned(at):
                many += 1
            else:
                at += 1
        return many

    def turn_jumps(self):
        """Does all turns of jumps, from row 0 anew behind each: how many."""
        many = 0
        while self.is_any_jump_turned():
            many += 1
        return many

    def is_any_jump_turned(self):
        """Does the first turn of jumps that goes: whether one did."""
        going = [at for at, row in enumerate(self.rows) if row.order[0] in WAYS or row.order[0] == "label"]
        for at in going:
            if self.is_jump_turned(at):
                return True
        return False

    def is_line_turned(self, at):
        """Does the turn of lines at a row, if it goes: whether it did."""
        if self.order_at(at)[0] != "line" or self.order_at(self.row_behind(at + 1, ("label",)))[0] != "line":
            return False
        self.put_out(at)
        return True

    def is_jump_turned(self, at):
        """Does the first turn of jumps that goes at a row: whether one did."""
        word = self.order_at(at)[0]
        if word == "jump":
            behind = self.row_behind(at + 1, ("label",))
            if ("label", self.order_at(at)[1]) in [row.order for row in self.rows[at + 1:behind]]:
                self.put_out(at)
                return True
        if word != "label":
            return self.is_led(self.rows[at])
        label = self.order_at(at)[1]
        if label in self.far_labels or self.many_naming.get(label, 0) > 0:
            return False
        self.put_out(at)
        return True

    def is_led(self, row):
        """Leads a row over a jump behind one of its labels, if that goes: whether it did."""
        for label in labels_of_order(row.order):
            at = self.jump_behind(label)
            if at is not None and self.order_at(at)[1] not in row.named:
                other = self.order_at(at)[1]
                self.led_over.append(self.rows[at])
                self.count_names(row.order, -1)
                row.order = with_label(row.order, label, other)
                self.count_names(row.order, 1)
                row.named[other] = True
                return True
        return False

    def jump_behind(self, label):
        """The number of the row jump to which a row that names a label can be led on, None without one."""
        begin = self.row_of(label) + 1
        at = self.row_behind(begin, ("label", "line"))
        order = self.order_at(at)
        if order[0] != "jump" or order[1] == label:
            return None
        has_lines = self.row_behind(begin, ("label",)) < at
        if has_lines and self.order_at(self.row_behind(self.row_of(order[1]), ("label",)))[0] != "line":
            return None
        return at

    def rows_reached(self):
        """The dict of the rows that are reached from row 0, or from a label that a far names."""
        waiting = [0] + [self.row_of(label) for label in self.far_labels]
        found = {}
        while waiting:
            at = waiting.pop()
            if at not in found and at < len(self.rows):
                found[at] = True
                order = self.order_at(at)
                if order[0] in WAYS:
                    waiting.extend([self.row_of(label) for label in labels_of_order(order)])
                if order[0] not in LAST and order[0] != "jump" and order[0] != "table":
                    waiting.append(at + 1)
        return found


def labels_of_order(order):
    """The labels of its own proc that an order names, in sequence."""
    if order[0] not in WAYS:
        return []
    return [label for label in order[2] if label is not None] if order[0] == "table" else [order[1]]


def with_label(order, label, other):
    """An order that names another label in the place of one."""
    if order[0] != "table":
        return order[0], other
    return order[0], order[1], tuple([other if known == label else known for known in order[2]])
