"""The code of values, and of the looks at them."""

from begunended.kindlore import host_of, string_length
from begunended.placecode import WAYS, PlaceCode
from begunended.plans import is_one_cell

COMPARED = {"=": "eq", "<>": "ne", "<": "lt", "<=": "le", ">": "gt", ">=": "ge"}
SET_COMPARED = {"=": "seq", "<>": "sne", "<=": "inside", ">=": "around"}
RECKONED = {"+": "add", "-": "sub", "*": "mul", "div": "div", "mod": "mod", "and": "and", "or": "or"}
SET_RECKONED = {"+": "join", "-": "less", "*": "meet"}
SIGNED = {"plus": (), "minus": ("neg",), "not": ("not",)}
SET_FORMS = ("set", "[]")


class ValueCode(PlaceCode):
    """The code of the values of a routine."""

    def emit_value(self, node, wanted):
        """V of an expression; wanted is the kind of the pointer that nil stands for, else it does not count."""
        word = node.word
        if word in WAYS:
            self.place_value(node)
        elif word == "name":
            self.name_value(node)
        elif word == "number":
            self.emit("num", node.parts[0].tree)
        elif word == "string":
            self.signs(node.parts[0].tree)
        elif word == "nil":
            self.emit("nil", wanted.aim.layout_name)
        elif word == "set":
            self.emit_items(node.parts[0].parts)
        elif word == "call":
            self.call_value(node)
        elif word in SIGNED:
            self.emit_value(node.parts[0], None)
            self.emit_all(SIGNED[word])
        elif word == "in":
            self.emit_number(node.parts[0])
            self.emit_value(node.parts[1], None)
            self.emit("in")
        elif word in COMPARED:
            self.compared(word, node.parts[0], node.parts[1])
        else:
            self.reckoned(word, node.parts[0], node.parts[1])

    def place_value(self, node):
        self.place(node, False)
        if is_one_cell(node.kind):
            self.emit("load")

    def name_value(self, node):
        """V of a name alone."""
        telling = node.means
        if node.spot is not None:
            self.place_value(node)
        elif telling.word == "constant" or telling.word == "value":
            self.constant(telling.kind, telling.value)
        elif telling.word == "required":
            self.end_asked(telling.name, None)
        else:
            self.call(telling, ())

    def constant(self, kind, value):
        form = host_of(kind).form
        if form == "string":
            self.signs(value)
        elif form == "char":
            self.emit("sign", value)
        elif form == "boolean":
            self.emit("truth", value)
        else:
            self.emit("num", value)

    def signs(self, signs):
        """V of a string, or of one sign."""
        if len(signs) == 1:
            self.emit("sign", ord(signs))
        else:
            self.emit("string", tuple([ord(sign) for sign in signs]))

    def emit_number(self, node):
        """N of an ordinal."""
        self.emit_value(node, None)
        self.as_number(node.kind)

    def as_number(self, kind):
        """Makes a number of a value of an ordinal kind."""
        form = host_of(kind).form
        if form == "boolean":
            self.emit("ordt")
        elif form == "char":
            self.emit("ordc")

    def from_number(self, kind):
        """Makes a value of an ordinal kind of its number."""
        form = host_of(kind).form
        if form == "boolean":
            self.emit("tru")
        elif form == "char":
            self.emit("chr")

    def emit_items(self, items):
        if not items:
            self.emit("set", ())
        for number, item in enumerate(items):
            if item.word == "to":
                self.emit_number(item.parts[0])
                self.emit_number(item.parts[1])
                self.emit("span")
            else:
                self.emit_number(item)
                self.emit("one")
            if number > 0:
                self.emit("join")

    def compared(self, sign, one, other):
        """V of a comparison."""
        if one.kind.form == "nil" and other.kind.form == "nil":
            self.emit("truth", 1 if sign == "=" else 0)
            return
        self.emit_value(one, other.kind)
        self.emit_value(other, one.kind)
        if one.kind.form in SET_FORMS:
            self.emit(SET_COMPARED[sign])
        elif one.kind.form == "pointer" or one.kind.form == "nil":
            self.emit("same" if sign == "=" else "unlike")
        elif string_length(one.kind) > 0:
            self.emit("text", COMPARED[sign])
        else:
            self.emit(COMPARED[sign])

    def reckoned(self, sign, one, other):
        self.emit_value(one, None)
        self.emit_value(other, None)
        self.emit(SET_RECKONED[sign] if one.kind.form in SET_FORMS else RECKONED[sign])

    def look(self, kind):
        """L of the kind into which a value is put."""
        if kind.form == "set":
            self.emit("within", kind.base.low, kind.base.high)
        elif kind.form == "stretch":
            self.as_number(kind)
            self.emit("look", kind.low, kind.high)
            self.from_number(kind)

    def put_value(self, node, kind):
        """The value of an expression that is put into a place of this kind, looked at."""
        self.emit_value(node, kind)
        self.look(kind)
