"""Calls of required procedures and functions."""

from begunended.callchecks import CallChecks
from begunended.kindlore import host_of, is_file, is_ordinal, may_put
from begunended.nodes import without_width


class RequiredChecks(CallChecks):
    """The calls of required routines of a text."""

    def kind_of_bare_required(self, node, name):
        """The kind of a required function's name alone."""
        if name != "eof" and name != "eoln":
            self.kind_fault(node.first, "count")
        self.want_standard(node.first, "input")
        return self.boolean

    def kind_of_required(self, node, name):
        """The kind of a call of a required function."""
        arguments = node.parts[1].parts
        if name == "eof" or name == "eoln":
            self.want_file(arguments[0], name == "eoln")
            kind = self.boolean
        else:
            kind = self.kind_of_reckoned(arguments[0], name)
        self.check_surplus(node, arguments)
        return kind

    def check_surplus(self, node, arguments):
        """Looks through all arguments but the first one, which is the only one that can stand."""
        for argument in arguments[1:]:
            self.kind_of(without_width(argument))
            self.want_no_width(argument)
        if len(arguments) > 1:
            self.count_fault(node, arguments)

    def kind_of_reckoned(self, node, name):
        """The kind of a required function's result."""
        host = host_of(self.kind_of(node))
        if name in ("ord", "succ", "pred"):
            if not is_ordinal(host):
                self.kind_fault(node.first, "ordinal")
            return self.integer if name == "ord" else host
        self.want_agreed(node, host == self.integer)
        if name == "odd":
            return self.boolean
        return self.char if name == "chr" else self.integer

    def want_file(self, node, is_text):
        """Wants a file's place, or a text's."""
        spot = self.argument_spot(node)
        if spot is None:
            self.kind_fault(node.first, "place")
        self.want_agreed(node, spot.kind.form == "text" if is_text else is_file(spot.kind))

    def check_required(self, node, name):
        """Looks through a call of a required procedure."""
        arguments = node.parts[1].parts
        if name == "read" or name == "readln":
            self.check_read(node, arguments, name == "readln")
        elif name == "write" or name == "writeln":
            self.check_write(node, arguments, name == "writeln")
        elif not arguments:
            self.count_fault(node, arguments)
        else:
            self.check_single(arguments[0], name)
            self.check_surplus(node, arguments)

    def check_single(self, argument, name):
        """Looks through the only argument of a required procedure."""
        node = without_width(argument)
        if name == "dispose":
            self.want_agreed(node, self.kind_of(node).form == "pointer")
        elif name == "new":
            spot = self.argument_spot(node)
            if spot is None:
                self.kind_fault(node.first, "place")
            self.want_agreed(node, spot.kind.form == "pointer")
        else:
            self.want_file(node, False)
        self.want_no_width(argument)

    def check_read(self, node, arguments, is_line):
        """Looks through read or readln."""
        if not arguments:
            self.want_standard(node.first, "input")
        file_kind = None
        for number, argument in enumerate(arguments):
            inner = without_width(argument)
            spot = self.argument_spot(inner)
            if number == 0 and spot is not None and is_file(spot.kind):
                self.want_agreed(inner, spot.kind.form == "text" or not is_line)
                file_kind = spot.kind
            else:
                if number == 0:
                    self.want_standard(node.first, "input")
                self.check_read_place(inner, spot, file_kind)
            self.want_no_width(argument)
        if not is_line and len(arguments) < (1 if file_kind is None else 2):
            self.count_fault(node, arguments)

    def check_read_place(self, node, spot, file_kind):
        """Looks through a place that is read from a file, of input for None."""
        self.threaten(node, spot)
        if spot is None:
            self.kind_fault(node.first, "place")
        if spot.is_tag:
            self.kind_fault(node.first, "packed")
        if file_kind is None or file_kind.form == "text":
            self.want_agreed(node, host_of(spot.kind) in (self.integer, self.char))
        else:
            self.want_agreed(node, may_put(spot.kind, file_kind.member))

    def check_write(self, node, arguments, is_line):
        """Looks through write or writeln."""
        if not arguments:
            self.want_standard(node.first, "output")
        file_kind = None
        for number, argument in enumerate(arguments):
            inner = without_width(argument)
            kind = self.kind_of(inner)
            if number == 0 and is_file(kind):
                self.want_agreed(inner, kind.form == "text" or not is_line)
                file_kind = kind
                self.want_no_width(argument)
            elif file_kind is not None and file_kind.form != "text":
                self.want_agreed(inner, may_put(file_kind.member, kind))
                self.want_no_width(argument)
            else:
                self.check_written(node, argument, kind, number == 0)
        if not is_line and len(arguments) < (1 if file_kind is None else 2):
            self.count_fault(node, arguments)

    def check_written(self, node, argument, kind, is_first):
        """Looks through what is written to a text; the first argument is known to be no file behind it."""
        if argument.word != "width":
            if is_first:
                self.want_standard(node.first, "output")
            self.want_agreed(argument, self.is_written(kind))
            return
        inner, width = argument.parts[:2]
        self.want_agreed(inner, self.is_written(kind))
        width_kind = self.kind_of(width)
        if is_first:
            self.want_standard(node.first, "output")
        self.want_agreed(width, host_of(width_kind) == self.integer)
