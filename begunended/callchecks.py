"""Calls of what a text tells: which routine is meant, what it is handed."""

from begunended.kindlore import same_heading
from begunended.nodes import without_width
from begunended.valuechecks import WAYS, ValueChecks


class CallChecks(ValueChecks):
    """The calls of a text."""

    def want_called(self, node, calling):
        """What the name ahead of a call's arguments means, a procedure or a function."""
        telling = self.use(node.parts[0])
        node.means = telling
        if telling.word == "kind":
            self.kind_fault(node.first, "kind")
        if telling.calling != calling:
            self.kind_fault(node.first, "call")
        return telling

    def check_call(self, node):
        """Looks through a call that is a statement."""
        telling = self.want_called(node, "procedure")
        if telling.word == "required":
            self.check_required(node, telling.name)
        else:
            self.check_arguments(node, telling.parameters)

    def kind_of_call(self, node):
        """The kind of a call with arguments that is an expression."""
        telling = self.want_called(node, "function")
        if telling.word == "required":
            return self.kind_of_required(node, telling.name)
        self.check_arguments(node, telling.parameters)
        return telling.kind

    def kind_of_bare_call(self, node, telling):
        """The kind of a function's name alone."""
        if telling.calling != "function":
            self.kind_fault(node.first, "call")
        if telling.word == "required":
            return self.kind_of_bare_required(node, telling.name)
        if telling.parameters:
            self.kind_fault(node.first, "count")
        return telling.kind

    def count_fault(self, node, arguments):
        """Tells that a call has too many or few arguments."""
        self.kind_fault(node.last if arguments else node.first, "count")

    def check_arguments(self, node, parameters):
        arguments = node.parts[1].parts
        for number, argument in enumerate(arguments):
            inner = without_width(argument)
            if number < len(parameters):
                self.check_handed(inner, parameters[number])
            else:
                self.kind_of(inner)
            self.want_no_width(argument)
        if len(arguments) != len(parameters):
            self.count_fault(node, arguments)

    def want_no_width(self, argument):
        if argument.word == "width":
            self.kind_fault(argument.parts[2].first, "count")

    def check_handed(self, node, parameter):
        """Looks through what is handed for a parameter."""
        if parameter.mode == "value":
            self.want_put(node, parameter.kind, self.kind_of(node))
        elif parameter.mode == "var":
            spot = self.argument_spot(node)
            self.threaten(node, spot)
            if spot is None or spot.kind != parameter.kind:
                self.kind_fault(node.first, "place")
            if spot.is_packed or spot.is_tag:
                self.kind_fault(node.first, "packed")
        else:
            self.check_routine_handed(node, parameter)

    def argument_spot(self, node):
        """What place an argument is, None for what is none."""
        if node.word == "name":
            spot = self.name_spot(node)
            return None if spot is None else self.note_spot(node, spot)
        if node.word in WAYS:
            return self.place_spot(node)
        self.kind_of(node)
        return None

    def check_routine_handed(self, node, parameter):
        if node.word != "name":
            self.kind_of(node)
            self.kind_fault(node.first, "call")
        telling = self.use(node.parts[0])
        node.means = telling
        if telling.word == "kind":
            self.kind_fault(node.first, "kind")
        if telling.calling is None or telling.word == "required" or not same_heading(telling, parameter):
            self.kind_fault(node.first, "call")

    def threaten(self, node, spot):
        """Takes note that a place is put; no for's name may be within its statement."""
        telling = None if spot is None else spot.telling
        if telling is None:
            return
        if telling in self.block.fors:
            self.name_fault(node.first, "threat")
        if telling.region != self.block.region:
            telling.is_threatened = True
