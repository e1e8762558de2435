"""Units that a walk makes, for tests of what holds of all units: each seed tells one, by inputs of numbers.

Their programs have names that are private and such as are not, rows and records with arms, pieces, hidden names,
files, two procs that are called, one of which goes far, perhaps.
"""

import difflib
import random

from begunended.checking import checked
from begunended.errors import BadUnit
from begunended.units import Unit

INPUTS = tuple((("input", text),) for text in (
    "", "1 2 3 4 5\n6 7 8\n", "0 0 0 0 0 0 0", "5 -3 100 2 2 2 2 2", "2147483647 1 2 3", "3 3 3 3\n3", "1\n2\n3\n4\n5\n", "9 8 7 6 5"))
# What p0 has: files, numbers (4 is told by p1, too), t, c, s, a row, a record, a pointer, a hidden name, counters, a file.
PROGRAM = "<text> <text> n n n t c s 3*n (n,{(n)|(c)}) ^l0 &n n n <n>"
OTHERS = (
    "drop", "dup", "num 0", "num 1", "num 2", "not", "neg", "add", "sub", "place 0 2", "place 0 3", "load", "store", "look 0 9", "look 1 5",
    "le", "lt", "eq", "line 3", "unset", "place 0 12")
HEADS = ("layout", "signature", "proc", "takes", "gives", "names", "files", "work", "end", "label")


class UnitWalk:
    """A unit as it is made: which proc it is at, how many labels this has."""

    def __init__(self, seed):
        self.rolls = random.Random(seed)
        self.proc = "p0"
        self.labels = 0

    def new_label(self):
        self.labels += 1
        return self.labels - 1

    def place(self):
        """Rows that leave the place of a number."""
        rolls = self.rolls
        if self.proc == "p1":
            return rolls.choice((["place 0 0"], ["place 0 1"], ["place 0 2"], ["place 1 4"], ["place 0 4", "field 0"]))
        if self.proc == "p2":
            return [rolls.choice(("place 0 0", "place 0 1", "place 0 2"))]
        roll = rolls.random()
        if roll < 0.6:
            return ["place 0 " + rolls.choice("2233234")]
        return rolls.choice((
            ["place 0 8", "num " + rolls.choice("0123"), "index 1 3"], ["place 0 8", *self.number(0), "index 1 3"],
            ["place 0 9", "field 0"],
            ["place 0 9", "field 1", "arm 0", "field 0"], ["place 0 10", "load", "aim", "field 0"], ["place 0 11"],
            ["place 0 14", "window"]))

    def number(self, deep):
        """Rows that leave a number."""
        rolls, roll = self.rolls, self.rolls.random()
        if deep == 0 or roll < 0.25:
            return ["num " + rolls.choice(("0", "1", "1", "2", "3", "5", "7", "-1", "-2", "100", "2147483647"))]
        if roll < 0.6:
            return [*self.place(), "load"]
        if roll < 0.8:
            return [*self.number(deep - 1), *self.number(deep - 1), rolls.choice(("add", "sub", "mul", "add", "sub", "div", "mod"))]
        if roll < 0.87:
            return [*self.number(deep - 1), rolls.choice(("neg", "abs", "sqr"))]
        if roll < 0.92:
            return [*self.number(deep - 1), rolls.choice(("look 0 9", "look 1 5", "look -3 3", "look 0 100", "look 1 7"))]
        if roll < 0.94:
            return [*self.truth(deep - 1), "ordt"]
        if self.proc != "p0":
            return self.number(deep - 1)
        return [*self.number(deep - 1), "call p2"] if roll < 0.97 else ["place 0 6", "load", "ordc"]

    def truth(self, deep):
        """Rows that leave a truth."""
        rolls, roll = self.rolls, self.rolls.random()
        if roll < 0.6:
            return [*self.number(deep), *self.number(max(deep - 1, 0)), rolls.choice(("eq", "ne", "lt", "le", "gt", "ge"))]
        if deep == 0:
            return ["truth " + rolls.choice("01")]
        if roll < 0.7:
            return [*self.truth(deep - 1), "not"]
        if roll < 0.8:
            return [*self.truth(deep - 1), *self.truth(deep - 1), rolls.choice(("and", "or"))]
        if roll < 0.86 or self.proc != "p0":
            return [*self.number(deep - 1), "odd"]
        return rolls.choice((["place 0 5", "load"], [*self.number(deep - 1), "place 0 7", "load", "in"],
            ["place 0 0", rolls.choice(("eof", "eoln"))]))

    def sequence(self, deep, most):
        rows = []
        for _ in range(self.rolls.randint(1, most)):
            rows += ["line " + self.rolls.choice("23456")] if self.rolls.random() < 0.3 else []
            rows += self.statement(deep)
        return rows

    def statement(self, deep):
        """Rows that take and leave nothing."""
        roll = self.rolls.random()
        if roll < 0.4 or roll < 0.6 and deep == 0:
            return [*self.place(), *self.number(2), "store"]
        if roll < 0.5:
            return self.chosen(deep)
        if roll < 0.55 and self.proc == "p0":
            return self.loop(deep)
        if roll < 0.6:
            return self.table(deep)
        return self.deed()

    def chosen(self, deep):
        one = self.new_label()
        rows = [*self.truth(2), f"unless {one}", *self.sequence(deep - 1, 2)]
        if self.rolls.random() < 0.5:
            return [*rows, f"label {one}"]
        other = self.new_label()
        return [*rows, f"jump {other}", f"label {one}", *self.sequence(deep - 1, 2), f"label {other}"]

    def loop(self, deep):
        name = "place 0 12" if deep == 2 else "place 0 13"
        one, other = self.new_label(), self.new_label()
        begin = [name, "num " + self.rolls.choice("123"), "store", f"label {one}", name, "load", "num 0", "gt", f"unless {other}"]
        return [*begin, *self.sequence(deep - 1, 2), name, name, "load", "num 1", "sub", "store", f"jump {one}", f"label {other}"]

    def table(self, deep):
        labels = [self.new_label() for _ in range(self.rolls.randint(1, 3))]
        words = [self.rolls.choice([str(label) for label in labels] + ["-"]) for _ in range(self.rolls.randint(1, 4))]
        behind = self.new_label()
        rows = [*self.number(1), "table " + self.rolls.choice("012") + " " + " ".join(words)]
        for label in labels:
            rows += [f"label {label}", *self.sequence(deep - 1, 1), f"jump {behind}"]
        return [*rows, f"label {behind}"]

    def deed(self):
        rolls = self.rolls
        if self.proc == "p1":
            return rolls.choice((["place 0 5", "bind 4"], ["place 0 3", *self.truth(1), "store"]))
        if self.proc == "p2":
            return ["place 0 2", *self.number(1), "store"]
        return rolls.choice((
            ["place 0 1", *self.number(2), "num 1", "writen"], ["place 0 1", *self.number(2), "num 1", "writen"],
            [*self.place(), "place 0 0", "readn", "store"],
            [*self.number(1), *self.place(), "call p1"], ["place 0 5", *self.truth(2), "store"],
            ["place 0 7", *self.number(1), "one", "store"],
            ["place 0 7", "place 0 7", "load", "set 2 3 4", "join", "within 0 9", "store"],
            ["place 0 9", "field 1", rolls.choice(("become 0", "become 1"))],
            ["place 0 9", *self.number(0), "lives 0 1 1 2 0"], ["place 0 10", "new"], ["place 0 10", "load", "gone"],
            [*self.place(), "bind 11"],
            [*self.place(), "unset"], ["place 0 6", *self.number(0), "chr", "store"],
            ["place 0 14", rolls.choice(("rewrite", "reset", "put", "get"))],
            ["place 0 1", "writeln"], ["place 0 0", "readln"], ["place 0 1", "string 97 98", "num 2", "writes"]))

    def begun(self, *choices):
        """Rows most of which stand at the begin."""
        rows = []
        for likely, told in choices:
            if self.rolls.random() < likely:
                rows += told.split("; ")
        return rows

    def unit(self):
        """The text of the unit."""
        begin = self.begun(
            (1, "line 1; place 0 0; reset; place 0 1; rewrite; place 0 2; num 1; store; place 0 3; num 2; store"),
            (0.8, "place 0 4; num 3; store"),
            (0.8, "place 0 8; num 1; index 1 3; num 4; store; place 0 8; num 2; index 1 3; num 4; store; place 0 8; num 3; index 1 3; num 4; store"),
            (0.8, "place 0 10; new; place 0 10; load; aim; field 0; num 2; store"), (0.8, "place 0 4; bind 11"),
            (0.8, "place 0 14; rewrite; place 0 9; field 1; become 0"),
            (0.8, "place 0 6; sign 65; store; place 0 7; set 1 5; store; place 0 5; truth 1; store; place 0 9; field 0; num 6; store"))
        code = [*begin, *self.sequence(2, 7), "line 7"]
        far = self.new_label() if self.rolls.random() < 0.3 else None
        if far is not None:
            code += [f"label {far}", *self.sequence(1, 2)]
        rows = ["layout l0 (n,^l0)", "proc p0 -", "takes", "gives -", "names " + PROGRAM, "files input output", "work 99", *code]
        rows += ["place 0 1", "place 0 2", "load", "num 3", "writen", "leave", "end", "proc p1 p0", "takes n &n", "gives -",
            "names n t &(n,c) (n,c)", "work 99"]
        self.proc, self.labels = "p1", 0
        rows += self.begun((1, "line 8"), (0.8, "place 0 2; num 1; store"), (0.8,
            "place 0 5; field 0; num 1; store; place 0 5; bind 4")) + self.sequence(2, 3)
        if far is not None:
            behind = self.new_label()
            rows += [*self.truth(1), f"unless {behind}", f"far 1 {far}", f"label {behind}"]
        rows += ["leave", "end", "proc p2 p0", "takes n", "gives n", "names n n", "work 99"]
        self.proc, self.labels = "p2", 0
        return "\n".join(rows + self.begun((1, "line 9"), (0.8, "place 0 2; num 1; store")) + self.sequence(1, 2)
                         + ["place 0 1", *self.number(1), "store", "leave", "end"])


def random_unit(seed):
    """The unit that this seed tells, None if it is none, or is not let."""
    return let_unit(UnitWalk(seed).unit())


def let_unit(text):
    """The unit of this text, None if it is none, or is not let."""
    try:
        unit = Unit(text)
    except BadUnit:
        return None
    return unit if checked(unit)[0] == "let" else None


def changed_unit(unit, rolls):
    """A unit with a few rows put out, in, or otherwise; None if it is none, or is not let."""
    rows = unit.text.split("\n")
    for _ in range(rolls.randint(1, 2)):
        codes = [at for at, row in enumerate(rows) if row.split(" ")[0] not in HEADS]
        at, roll, many = rolls.choice(codes), rolls.random(), rolls.randint(1, 4)
        words = rows[at].split(" ")
        if roll < 0.3 and at + many - 1 in codes:
            del rows[at:at + many]
        elif roll < 0.45:
            rows.insert(at, rolls.choice((rolls.choice(OTHERS), rows[rolls.choice(codes)])))
        elif roll < 0.55 and at + 1 in codes:
            rows[at], rows[at + 1] = rows[at + 1], rows[at]
        elif roll < 0.75 and words[-1].lstrip("-").isdigit():
            rows[at] = " ".join(words[:-1] + [str(int(words[-1]) + rolls.choice((-1, 1)))])
        elif roll < 0.85 and at + many - 1 in codes:
            other = rolls.choice(codes)
            rows[other:other] = rows[at:at + many]
        else:
            rows[at] = rolls.choice((rolls.choice(OTHERS), rows[rolls.choice(codes)]))
    return let_unit("\n".join(rows))


def shapes_of(unit):
    return {(name, row): shape for name, row, shape in checked(unit)[1]}


def aligned(left, right, rolls, likely):
    """The text of a seam of rows that two units have in one sequence, each as likely."""
    ones, others = shapes_of(left), shapes_of(right)
    rows = []
    for name in left.procs:
        rows += ["proc " + name, "match 0 0"]
        for begin, end, many in difflib.SequenceMatcher(None, left.code(name), right.code(name), autojunk=False).get_matching_blocks():
            for at in range(many):
                one, other = begin + at, end + at
                word = left.code(name)[one].split(" ")[0]
                if one and other and word != "line" and (name, one) in ones and ones[name, one] == others.get((name, other)):
                    if word == "jump" or rolls.random() < likely:
                        rows += [f"match {one} {other}", *[f"work w{thing}" for thing in range(len(ones[name, one]))]]
    return "\n".join(rows)
