"""Reading the text of a unit, row by row: the first row that cannot stand where it is is told."""

from begunended.errors import BadUnit
from begunended.layoutforms import LayoutTable, is_cell, is_layout, is_unit_name, is_word
from begunended.orderforms import names_in, number_within, order_read

MOST_LAYOUTS = 24
MOST_SIGNATURES = 12
MOST_NEEDS = 12
MOST_PROCS = 12
MOST_THINGS = 40
MOST_ROWS = 200
HIGHEST_LEVEL = 9
NONE = "-"
TELLING = ("layout ", "signature ", "proc ", "needs ")
# How rows begin that a look ahead for labels looks at.
LABELS_AHEAD = ("label ", "end", "proc")


class Heading:
    """What a signature or a proc takes and gives: PARAMs and a SORT, as they are written."""

    def __init__(self, takes, gives):
        self.takes = takes
        self.gives = gives


class Proc:
    """A proc of a unit: its rows as they are written, and its code as orders that were read.

    Around are the names of the procs that are around it, itself the first; things are its takes, then
    its names; labels the numbers of the rows of its labels.
    """

    def __init__(self, around):
        self.around = around
        self.takes = ()
        self.gives = NONE
        self.things = ()
        self.outside_names = ()
        self.work = 0
        self.rows = []
        self.orders = []
        self.labels = {}


class UnitReader:
    """A unit that is being read: its rows, which one is next, and what was read of those ahead."""

    def __init__(self, text):
        self.rows = text.split("\n")
        self.at = 0
        self.table = LayoutTable()
        telling = [row.split(" ") for row in self.rows if row.startswith(TELLING)]
        self.told_layouts = told_by("layout", telling)
        self.told_signatures = told_by("signature", telling)
        self.told_procs = told_by("proc", telling)
        self.told_needs = told_by("needs", telling)
        self.layouts = {}
        self.signatures = {}
        self.needs = {}
        self.procs = {}

    def want(self, is_right):
        """Tells the next row as one that cannot stand there, unless it can."""
        if not is_right:
            raise BadUnit(self.at + 1)

    def next_row(self):
        """The words of the next row."""
        self.want(self.at < len(self.rows))
        return self.rows[self.at].split(" ")

    def is_next(self, word):
        return self.at < len(self.rows) and self.rows[self.at].split(" ")[0] == word

    def read(self):
        """Reads all rows."""
        while self.is_next("layout"):
            self.read_layout()
        while self.is_next("signature"):
            self.read_signature()
        while self.is_next("needs"):
            self.read_needs()
        self.read_proc()
        while self.at < len(self.rows):
            self.read_proc()

    def want_new(self, row, known, most):
        """Wants the second word of a row to be a name that is not told already, and not too many."""
        self.want(len(row) > 2 and is_unit_name(row[1]) and row[1] not in known and len(known) < most)

    def read_layout(self):
        row = self.next_row()
        self.want_new(row, self.layouts, MOST_LAYOUTS)
        layout = self.table.of(row[2])
        self.want(len(row) == 3 and is_layout(layout) and layout.form != "file" and self.are_aims_told(layout))
        self.layouts[row[1]] = row[2]
        self.at += 1

    def are_aims_told(self, layout):
        return all([name in self.told_layouts for name in layout.aims])

    def read_signature(self):
        row = self.next_row()
        self.want_new(row, self.signatures, MOST_SIGNATURES)
        self.signatures[row[1]] = self.heading(row[2:])
        self.at += 1

    def read_needs(self):
        row = self.next_row()
        self.want_new(row, self.needs, MOST_NEEDS)
        self.want(row[2] in self.told_procs)
        self.needs[row[1]] = (row[2], self.heading(row[3:]))
        self.at += 1

    def heading(self, words):
        """What stands behind a name: takes PARAM .. gives SORT."""
        self.want(len(words) > 2 and words[0] == "takes" and words[-2] == "gives")
        self.want_takes(words[1:-2])
        self.want(self.is_sort(words[-1]))
        return Heading(tuple(words[1:-2]), words[-1])

    def want_takes(self, words):
        self.want(len(words) <= MOST_THINGS and all([self.is_param(word) for word in unlike(words)]))

    def is_param(self, word):
        """Whether a proc can take this."""
        if word.startswith("@"):
            return word[1:] in self.told_signatures
        return self.is_thing(word) and not word.startswith("<")

    def is_thing(self, word):
        """Whether this is L or &L."""
        layout = self.table.of(word[1:] if word.startswith("&") else word)
        return is_layout(layout) and self.are_aims_told(layout)

    def is_sort(self, word):
        """Whether a proc can give this."""
        if word == NONE:
            return True
        layout = self.table.of(word)
        return is_layout(layout) and is_cell(layout) and self.are_aims_told(layout)

    def read_proc(self):
        row = self.next_row()
        self.want(row[0] == "proc")
        self.want_new(row, self.procs, MOST_PROCS)
        self.want(len(row) == 3 and row[1] not in self.needs)
        is_program = not self.procs
        if is_program:
            self.want(row[2] == NONE)
            proc = Proc((row[1],))
        else:
            self.want(row[2] in self.procs and len(self.procs[row[2]].around) <= HIGHEST_LEVEL)
            proc = Proc((row[1], *self.procs[row[2]].around))
        self.procs[row[1]] = proc
        self.at += 1
        self.read_head(proc, is_program)
        self.read_code(proc)

    def words_behind(self, word):
        """The words behind the first one of the next row, which is this one."""
        row = self.next_row()
        self.want(row[0] == word)
        return row[1:]

    def read_head(self, proc, is_program):
        """Reads takes, gives, names, files and work."""
        takes = self.words_behind("takes")
        self.want_takes(takes)
        self.want(not is_program or not takes)
        proc.takes = tuple(takes)
        self.at += 1
        gives = self.words_behind("gives")
        self.want(len(gives) == 1 and self.is_sort(gives[0]) and (not is_program or gives[0] == NONE))
        proc.gives = gives[0]
        self.at += 1
        names = self.words_behind("names")
        self.want(len(takes) + len(names) <= MOST_THINGS and all([self.is_thing(word) for word in unlike(names)]))
        self.want(gives[0] == NONE or names[:1] == gives)
        proc.things = (*takes, *names)
        self.at += 1
        if is_program:
            words = self.words_behind("files")
            self.want(len(words) <= len(names) and all([name.startswith("<") for name in names[:len(words)]]))
            self.want(all([is_word(word) for word in words]) and len(unlike(words)) == len(words))
            proc.outside_names = tuple(words)
            self.at += 1
        work = self.words_behind("work")
        self.want(len(work) == 1 and number_within(work[0], "work") is not None)
        proc.work = int(work[0])
        self.at += 1

    def read_code(self, proc):
        """Reads the code, and the row end behind it; rows that are alike are read once."""
        begin = self.at
        told = self.labels_told()
        known = {}
        orders = []
        for number, row in enumerate(self.rows[begin:]):
            order = known.get(row)
            if order is None or number >= MOST_ROWS:
                self.at = begin + number
                words = row.split(" ")
                if words[0] == "end" and number > 0:
                    break
                self.want(number < MOST_ROWS)
                order = self.order_of(words, proc, told)
                if order[0] == "label":
                    proc.labels[order[1]] = number
                else:
                    known[row] = order
            orders.append(order)
        proc.rows = self.rows[begin:begin + len(orders)]
        proc.orders = orders
        self.at = begin + len(orders)
        self.want(len(self.next_row()) == 1)
        self.at += 1

    def labels_told(self):
        """The dict of the labels that rows tell, up to the next row end or proc, as they are written."""
        told = {}
        for row in self.rows[self.at:]:
            if row.startswith(LABELS_AHEAD):
                words = row.split(" ")
                if words[0] == "end" or words[0] == "proc":
                    break
                if words[0] == "label":
                    told[words[1]] = True
        return told

    def order_of(self, row, proc, labels):
        """The order, label or line that a row is."""
        if row[0] == "label" or row[0] == "line":
            number = number_within(row[1], row[0]) if len(row) == 2 else None
            self.want(number is not None and (row[0] == "line" or number not in proc.labels))
            return row[0], number
        order = order_read(row)
        self.want(order is not None)
        for sort, name in names_in(order):
            self.want(self.is_told(sort, name, labels))
        return order

    def is_told(self, sort, name, labels):
        """Whether the text tells what an order names."""
        if sort == "layout":
            return name in self.told_layouts
        if sort == "signature":
            return name in self.told_signatures
        if sort == "proc":
            return name in self.told_procs or name in self.told_needs
        return str(name) in labels


def told_by(word, rows):
    """The dict of names that rows of this word tell, whatever else is wrong with them."""
    return {row[1]: True for row in rows if row[0] == word}


def unlike(words):
    """The list of words, each once."""
    return list({word: True for word in words})
