"""The code of calls."""

from begunended.kindlore import host_of, is_file, string_length
from begunended.nodes import without_width
from begunended.plans import is_one_cell
from begunended.valuecode import ValueCode

NUMBER_WIDTH = 10
TRUTH_WIDTH = 5
SIGN_WIDTH = 1


class CallCode(ValueCode):
    """The code of the calls of a routine."""

    def call(self, telling, arguments):
        """The rows of a call of a routine, or of a parameter that is one."""
        if telling.mode is not None:
            self.handed_thing(telling)
        for argument, parameter in zip(arguments, telling.parameters):
            self.argument(argument, parameter)
        if telling.mode is not None:
            self.emit("callh", self.plan.signature(telling))
        else:
            self.emit("call", "p" + str(telling.number))

    def handed_thing(self, telling):
        """What a parameter that is a routine is."""
        owner = self.owner_of(telling)
        self.emit("handed", self.own.depth - owner.depth, owner.numbers[telling])

    def argument(self, node, parameter):
        """The rows of what is handed for a parameter."""
        if parameter.mode == "var":
            self.place(node, False)
        elif parameter.mode != "value":
            if node.means.mode is not None:
                self.handed_thing(node.means)
            else:
                self.emit("hand", "p" + str(node.means.number), self.plan.signature(parameter))
        else:
            self.put_value(node, parameter.kind)

    def call_value(self, node):
        """V of a call with arguments."""
        telling = node.means
        arguments = node.parts[1].parts
        if telling.word == "required":
            self.required_value(telling.name, arguments[0])
        else:
            self.call(telling, arguments)

    def required_value(self, name, node):
        if name == "eof" or name == "eoln":
            self.end_asked(name, node)
        elif name == "ord":
            self.emit_number(node)
        elif name == "succ" or name == "pred":
            self.neighbour(node, "add" if name == "succ" else "sub")
        else:
            self.emit_value(node, None)
            self.emit(name)

    def end_asked(self, name, node):
        """V of eof, eoln, of input for None."""
        self.file_place(node, "input")
        self.emit(name)

    def file_place(self, node, name):
        """P of a file's place; for None of input or output."""
        if node is not None:
            self.place(node, False)
            return
        for telling in self.plan.facts.head_files:
            if telling.name == name:
                self.name_place(telling)

    def neighbour(self, node, order):
        """V of succ, pred."""
        host = host_of(node.kind)
        self.emit_number(node)
        self.emit("num", 1)
        self.emit(order)
        if host.form != "integer":
            self.emit("look", host.low, host.high)
            self.from_number(host)

    def call_statement(self, node):
        """The rows of a call that is a statement."""
        telling = node.means
        arguments = node.parts[1].parts
        if telling.word != "required":
            self.call(telling, arguments)
        elif telling.name == "read" or telling.name == "readln":
            self.read_call(telling.name, arguments)
        elif telling.name == "write" or telling.name == "writeln":
            self.write_call(telling.name, arguments)
        elif telling.name == "dispose":
            self.emit_value(arguments[0], None)
            self.emit("gone")
        else:
            self.place(arguments[0], False)
            self.emit(telling.name)

    def file_of(self, arguments):
        """The file that is told first, or None, and the arguments behind it."""
        if arguments and is_file(without_width(arguments[0]).kind):
            return arguments[0], arguments[1:]
        return None, arguments

    def read_call(self, name, arguments):
        node, places = self.file_of(arguments)
        for place in places:
            if node is None or node.kind.form == "text":
                self.read_text(place, node)
            else:
                self.read_thing(place, node)
        if name == "readln":
            self.file_place(node, "input")
            self.emit("readln")

    def read_text(self, place, node):
        """Reads a number or a sign of a text."""
        self.place(place, False)
        self.file_place(node, "input")
        self.emit("readn" if host_of(place.kind).form == "integer" else "readc")
        self.look(place.kind)
        self.emit("store")

    def read_thing(self, place, node):
        """Reads a thing of another file."""
        self.place(place, False)
        self.place(node, False)
        self.emit("window")
        if is_one_cell(place.kind):
            self.emit("load")
            self.look(place.kind)
            self.emit("store")
        else:
            self.emit("move")
        self.place(node, False)
        self.emit("get")

    def write_call(self, name, arguments):
        node, told = self.file_of(arguments)
        for argument in told:
            if node is None or node.kind.form == "text":
                self.write_text(argument, node)
            else:
                self.write_thing(argument, node)
        if name == "writeln":
            self.file_place(node, "output")
            self.emit("writeln")

    def write_text(self, argument, node):
        """Writes a value with its width, or with that of its sort."""
        inner = without_width(argument)
        self.file_place(node, "output")
        self.emit_value(inner, None)
        form = host_of(inner.kind).form
        if form == "integer":
            width, order = NUMBER_WIDTH, "writen"
        elif form == "boolean":
            width, order = TRUTH_WIDTH, "writet"
        elif form == "char":
            width, order = SIGN_WIDTH, "writec"
        else:
            width, order = string_length(inner.kind), "writes"
        if argument.word == "width":
            self.emit_value(argument.parts[1], None)
        else:
            self.emit("num", width)
        self.emit(order)

    def write_thing(self, argument, node):
        """Writes a thing into another file."""
        member = node.kind.member
        self.place(node, False)
        self.emit("window")
        self.put_value(argument, member)
        self.emit("store" if is_one_cell(member) else "move")
        self.place(node, False)
        self.emit("put")
