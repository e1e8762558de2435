"""Programs that a walk makes, for tests of what holds of all programs: each seed tells one.

Most of them are programs; where one is none (a threatened for's name, too many routines), no test minds.
"""

import random

KINDS = (
    "type color = (red, green, blue); small = 1..9; letter = 'b'..'y'; warm = red..green; digits = set of 1..5;\n"
    "chars = set of char; row = array [3..5] of integer; word = packed array [1..2] of char; ptr = ^node;\n"
    "shape = record x: integer; case t: boolean of true: (a, b: integer);\n"
    "false: (c: char; case k: color of green, red: (d: integer); blue: (e: row)) end;\n"
    "node = record n: integer; q: ptr; s: shape end;\n"
    "free = record case integer of 1: (f: integer; case boolean of true: (g: integer); false: (h: word));\n"
    "2: (w: letter) end; few = file of small; shapes = file of shape;\n")
# The base kinds of expressions, by kinds of places.
BASES = {
    "integer": "integer", "small": "integer", "boolean": "boolean", "char": "char", "letter": "char", "color": "color",
    "warm": "color", "digits": "numbers", "chars": "chars", "word": "word", "ptr": "ptr", "row": "row", "shape": "shape",
    "node": "node", "free": "free"}
TOLD = {
    "integer": ("0", "1", "2", "3", "7", "50"), "boolean": ("true", "false"), "char": ("'a'", "'c'", "' '"),
    "color": ("red", "green", "blue"), "numbers": ("[]", "[1, 2]", "[3..5]"), "chars": ("[]", "['a'..'f']"),
    "word": ("'ab'", "'zz'"), "ptr": ("nil",)}
# Forms of expressions by base kind; what stands in braces is an expression of that kind.
FORMS = {
    "integer": (
        "({integer} + {integer})", "({integer} - {integer})", "({integer} * {integer})", "({integer} div {integer})",
        "({integer} mod {integer})", "abs({integer})", "sqr({integer})", "ord({char})", "ord({boolean})", "ord({color})",
        "succ({integer})", "pred({integer})", "(-{integer})"),
    "boolean": (
        "({boolean} and {boolean})", "({boolean} or {boolean})", "(not {boolean})", "({integer} < {integer})",
        "({integer} = {integer})", "({char} >= {char})", "({integer} in {numbers})", "({char} in {chars})",
        "({numbers} <= {numbers})", "({numbers} <> {numbers})", "({word} < {word})", "({word} = {word})", "({ptr} = {ptr})",
        "odd({integer})", "({color} <= {color})", "succ({boolean})", "eof(t1)", "eoln(t1)", "eof(f1)"),
    "char": ("chr({integer})", "succ({char})", "pred({char})"),
    "color": ("succ({color})", "pred({color})"),
    "numbers": ("({numbers} + {numbers})", "({numbers} * {numbers})", "[{integer}, {integer}..{integer}]"),
    "chars": ("({chars} - {chars})", "[{char}]")}
FIELDS = {
    "shape": {"x": "integer", "t": "boolean", "a": "integer", "b": "integer", "c": "char", "k": "color", "d": "integer", "e": "row"},
    "node": {"n": "integer", "q": "ptr", "s": "shape"},
    "free": {"f": "integer", "g": "integer", "h": "word", "w": "letter"}}
TAGS = ("t", "k")
BEGUN = {
    "integer": "{} := 1", "small": "{} := 2", "boolean": "{} := true", "char": "{} := 'c'", "letter": "{} := 'd'",
    "color": "{} := green", "warm": "{} := red", "digits": "{} := [2]", "chars": "{} := ['a']", "word": "{} := 'ab'",
    "ptr": "{} := nil", "row": "{0}[3] := 1; {0}[4] := 2; {0}[5] := 3", "node": "{0}.n := 5; {0}.q := nil", "free": "{}.f := 1",
    "shape": "with {} do begin x := 1; t := true; a := 2; b := 3 end"}
FILE_DEEDS = (
    "rewrite(f1)", "reset(f1)", "rewrite(f2)", "reset(f2)", "rewrite(t1)", "reset(t1)", "get(f1)", "put(f2)", "f1^ := {integer}",
    "f2^.x := {integer}", "f2^.t := {boolean}", "write(f1, {integer})", "writeln(t1)", "readln(t1)", "write({integer}: 3)",
    "write(t1, {word})", "writeln({boolean})", "write({char}: {integer})")


class Walk:
    """A program as it is made: names by scopes, routines that can be called, labels that a goto may go to."""

    def __init__(self, seed):
        self.rolls = random.Random(seed)
        self.scopes = []
        self.routines = []
        self.labels = []
        self.withs = []
        self.fors = []

    def program(self):
        text, body = self.block("m", [], 0, 3)
        heads = ["rewrite(t1)", "rewrite(f1)", "rewrite(f2)"]
        return "program p(input, output, f1, f2, t1);\n" + text + "begin\n" + ";\n".join(heads + body) + "\nend."

    def places(self, wanted, is_var=False):
        """All places of just this kind that are at hand; for a var parameter no parts of words, no tags."""
        found = []
        for scope in self.scopes:
            for name, kind in scope.items():
                if name not in self.fors:
                    self.parts(name, kind, wanted, 2, is_var, found)
        for _, kind in self.withs[-1:]:
            for field, inner in FIELDS[kind].items():
                if not (is_var and field in TAGS):
                    self.parts(field, inner, wanted, 1, is_var, found)
        return found

    def parts(self, place, kind, wanted, deep, is_var, found):
        if kind == wanted:
            found.append(place)
        if deep == 0:
            return
        if kind == "row":
            self.parts(place + "[" + self.rolls.choice("345") + "]", "integer", wanted, deep - 1, is_var, found)
        elif kind == "word" and not is_var:
            self.parts(place + "[" + self.rolls.choice("12") + "]", "char", wanted, deep - 1, is_var, found)
        elif kind == "ptr" and self.rolls.random() < 0.1:
            self.parts(place + "^", "node", wanted, deep - 1, is_var, found)
        for field, inner in FIELDS.get(kind, {}).items():
            if self.rolls.random() < 0.4 and not (is_var and field in TAGS):
                self.parts(place + "." + field, inner, wanted, deep - 1, is_var, found)

    def place(self, kind, is_var=False):
        found = self.places(kind, is_var)
        return self.rolls.choice(found) if found else None

    def expression(self, base, deep):
        """An expression of a base kind, None if there is none."""
        roll = self.rolls.random()
        if base not in FORMS or deep == 0 or roll < 0.3:
            kinds = [kind for kind in BASES if BASES[kind] == base]
            place = self.place(self.rolls.choice(kinds))
            if place is not None and (roll < 0.6 or base not in TOLD):
                return place
            return self.rolls.choice(TOLD[base]) if base in TOLD else None
        calls = [row for row in self.routines if row[1] == "function"]
        if base == "integer" and calls and roll < 0.4:
            return self.call(self.rolls.choice(calls)) or "5"
        return self.filled(self.rolls.choice(FORMS[base]), deep - 1)

    def filled(self, form, deep):
        """A form in which expressions stand in the place of their kinds."""
        while "{" in form:
            begin, end = form.index("{"), form.index("}")
            form = form[:begin] + self.expression(form[begin + 1:end], deep) + form[end + 1:]
        return form

    def call(self, routine):
        """A call with arguments, None if there is nothing that could be handed."""
        name, _, parameters = routine
        given = []
        for mode, kind in parameters:
            if mode == "value":
                given.append(self.expression(BASES[kind], 1))
            elif mode == "var":
                given.append(self.place(kind, True))
            else:
                plain = [row[0] for row in self.routines if row[1:] == ("procedure", ())]
                given.append(self.rolls.choice(plain) if plain else None)
        if None in given:
            return None
        return name + ("(" + ", ".join(given) + ")" if given else "")

    def statement(self, deep):
        roll = self.rolls.random()
        if deep == 0 or roll < 0.5:
            return self.simple()
        if roll < 0.58:
            return "if {} then {} else {}".format(self.condition(), self.statement(deep - 1), self.statement(deep - 1))
        if roll < 0.64:
            return "begin {} end".format(self.sequence(deep - 1))
        if roll < 0.68:
            return "while {} do {}".format(self.condition(), self.statement(deep - 1))
        if roll < 0.72:
            return "repeat {} until {}".format(self.sequence(deep - 1), self.condition())
        if roll < 0.82:
            return self.loop(deep)
        if roll < 0.88:
            head = "case {} of 0, -1, 1: {}; 2, 5: {}; 3, 4, 6: {}; 50, 100, 7: {} end"
            return head.format(self.expression("integer", 1), *[self.statement(deep - 1) for _ in range(4)])
        if roll < 0.96:
            return self.opened(deep)
        return "goto " + self.rolls.choice(self.labels) if self.labels else ""

    def condition(self):
        return self.expression("boolean", 2)

    def sequence(self, deep):
        return "; ".join([self.statement(deep) for _ in range(self.rolls.randint(1, 3))])

    def loop(self, deep):
        """A for over a variable of this block's own."""
        own = [name for name, kind in self.scopes[-1].items()
               if name.startswith("i") and BASES[kind] in ("integer", "char", "color", "boolean") and name not in self.fors]
        if not own:
            return ""
        name = self.rolls.choice(own)
        ends = [self.rolls.choice(TOLD[BASES[self.scopes[-1][name]]]) for _ in range(2)]
        self.fors.append(name)
        body = self.statement(deep - 1)
        self.fors.pop()
        return "for {} := {} {} {} do {}".format(name, ends[0], self.rolls.choice(("to", "downto")), ends[1], body)

    def opened(self, deep):
        kind = self.rolls.choice(("shape", "node", "free"))
        place = self.place(kind)
        if place is None:
            return ""
        self.withs.append((place, kind))
        body = self.statement(deep - 1)
        self.withs.pop()
        return "with {} do {}".format(place, body)

    def simple(self):
        """A statement without others within it."""
        roll = self.rolls.random()
        if roll < 0.5:
            kind = self.rolls.choice(list(BASES))
            place, value = self.place(kind), self.expression(BASES[kind], 2)
            return "" if place is None or value is None else place + " := " + value
        if roll < 0.65 and self.routines:
            procedures = [row for row in self.routines if row[1] == "procedure"]
            return (self.call(self.rolls.choice(procedures)) if procedures else None) or ""
        if roll < 0.9:
            return self.filled(self.rolls.choice(FILE_DEEDS), 1)
        place = self.place("ptr", True)
        return "" if place is None else self.rolls.choice(("new({})", "new({})", "dispose({})")).format(place)

    def block(self, name, parameters, level, deep):
        """The text ahead of a block's begin, and the list of its statements."""
        rolls = self.rolls
        kinds = ["integer"] + rolls.sample(list(BASES), rolls.randint(2, 6))
        own = {("i" if rolls.random() < 0.6 else "v") + name + str(at): kind for at, kind in enumerate(kinds)}
        scope = {told: kind for told, mode, kind in parameters if mode != "procedure"}
        scope.update(own)
        labels = [str(100 * len(name) + 10 * level + at) for at in range(rolls.randint(0, 2))]
        ahead = list(self.routines), list(self.labels), self.withs, self.fors
        self.routines += [(told, "procedure", ()) for told, mode, _ in parameters if mode == "procedure"]
        self.labels, self.withs, self.fors = self.labels + labels, [], []
        self.scopes.append(scope)
        text = "label " + ", ".join(labels) + ";\n" if labels else ""
        text += (KINDS if level == 0 else "") + "var " + "; ".join("{}: {}".format(*row) for row in own.items()) + ";\n"
        text += "f1: few; f2: shapes; t1: text;\n" if level == 0 else ""
        for at in range(rolls.randint(0, 2) if level < 3 else 0):
            text += self.routine(name + "abc"[at], level + 1, deep - 1)
        body = [BEGUN[kind].format(told) for told, kind in own.items()]
        body += [self.statement(max(deep, 1)) for _ in range(rolls.randint(2, 6))]
        for label in labels:
            body.insert(rolls.randint(0, len(body)), label + ": " + self.statement(1))
        self.scopes.pop()
        self.routines, self.labels, self.withs, self.fors = ahead
        return text, body

    def routine(self, name, level, deep):
        rolls = self.rolls
        parameters = []
        for at in range(rolls.randint(0, 3)):
            mode = rolls.choice(("value", "value", "var", "procedure"))
            parameters.append(("p" + name + str(at), mode, rolls.choice(list(BASES))))
        heads = {"value": "{}: {}", "var": "var {}: {}", "procedure": "procedure {}"}
        told = "; ".join(heads[mode].format(parameter, kind) for parameter, mode, kind in parameters)
        word = rolls.choice(("procedure", "procedure", "function"))
        row = ("r" + name, word, tuple((mode, kind) for _, mode, kind in parameters))
        text, body = self.block(name, parameters, level, deep)
        if word == "function":
            body.append("r" + name + " := 7")
        self.routines.append(row)
        head = word + " r" + name + ("(" + told + ")" if told else "") + (": integer" if word == "function" else "")
        return head + ";\n" + text + "begin\n" + ";\n".join(body) + "\nend;\n"


def random_program(seed):
    """The text of the program that this seed tells."""
    return Walk(seed).program()
