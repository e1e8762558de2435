"""Statements, labels and gotos."""

from begunended.kindlore import do_agree, is_ordinal
from begunended.requiredchecks import RequiredChecks
from begunended.told import Goto, With

OUTERMOST = 0


class StatementChecks(RequiredChecks):
    """The statements of a text."""

    def check_statement(self, node, sequence):
        """Looks through a statement; sequence is the number of the one that it stands in, or None."""
        word = node.word
        if word == "label":
            self.check_labelled(node, sequence)
        elif word == "put":
            self.check_put(node)
        elif word == "call":
            self.check_call(node)
        elif word == "goto":
            self.check_goto(node.parts[0])
        elif word == "begin":
            self.check_sequence(node.parts[0])
        elif word == "if":
            self.want_condition(node.parts[0])
            self.check_statement(node.parts[1], None)
            if node.parts[2] is not None:
                self.check_statement(node.parts[2], None)
        elif word == "while":
            self.want_condition(node.parts[0])
            self.check_statement(node.parts[1], None)
        elif word == "repeat":
            self.check_sequence(node.parts[0])
            self.want_condition(node.parts[1])
        elif word == "for":
            self.check_for(node)
        elif word == "case":
            self.check_case(node)
        elif word == "with":
            self.check_with(node)

    def check_sequence(self, statements):
        """Looks through what stands between begin and end, or repeat and until."""
        block = self.block
        number = block.many_sequences
        block.many_sequences += 1
        block.sequences.append(number)
        for statement in statements.parts:
            self.check_statement(statement, number)
        block.sequences.pop()

    def check_put(self, node):
        place, expression = node.parts
        if place.word == "name":
            into = self.kind_of_left_name(place)
        else:
            into = self.place_spot(place).kind
        self.want_put(expression, into, self.kind_of(expression))

    def kind_of_left_name(self, node):
        """The kind of a name alone on the left of :=, also a function's within its block."""
        spot = self.name_spot(node)
        self.threaten(node, spot)
        if spot is not None:
            return self.note_spot(node, spot).kind
        if node.means.calling != "function" or node.means not in self.routines:
            self.kind_fault(node.first, "place")
        return self.note(node, node.means.kind, True)

    def check_for(self, node):
        leaf, begin, _, end, statement = node.parts
        telling = self.use(leaf)
        if telling.word != "variable" or telling.region != self.block.region:
            self.name_fault(leaf.first, "local")
        if telling in self.block.fors or telling.is_threatened:
            self.name_fault(leaf.first, "threat")
        if not is_ordinal(telling.kind):
            self.kind_fault(leaf.first, "ordinal")
        for expression in (begin, end):
            self.want_agreed(expression, do_agree(telling.kind, self.kind_of(expression)))
        self.block.fors.append(telling)
        self.check_statement(statement, None)
        self.block.fors.pop()

    def check_case(self, node):
        expression, choices = node.parts
        kind = self.kind_of(expression)
        if not is_ordinal(kind):
            self.kind_fault(expression.first, "ordinal")
        taken = {}
        for choice in choices.parts:
            constants, statement = choice.parts
            choice.means = [self.choice(constant, kind, taken, "label") for constant in constants.parts]
            self.check_statement(statement, None)

    def check_with(self, node):
        variables, statement = node.parts
        node.means = []
        for variable in variables.parts:
            spot = self.place_spot(variable)
            if spot.kind.form != "record":
                self.kind_fault(variable.first, "record")
            scope = With(variable, spot)
            node.means.append(scope)
            self.block.withs.append(scope)
        self.check_statement(statement, None)
        for _ in variables.parts:
            self.block.withs.pop()

    def check_labelled(self, node, sequence):
        """Looks through a statement with a label, which is placed here."""
        leaf, plain = node.parts
        label = self.block.labels.get(leaf.tree)
        if label is None or label.placed is not None:
            self.name_fault(leaf.first, "label")
        label.placed = leaf.first
        node.means = label
        label.sequence = sequence
        for goto in label.gotos:
            if not may_come_later(goto, sequence):
                self.name_fault(leaf.first, "goto")
        self.block.open_labels.append(label)
        self.check_statement(plain, None)
        self.block.open_labels.pop()

    def check_goto(self, leaf):
        block = self.block
        out = 0
        while block is not None and leaf.tree not in block.labels:
            block = block.outside
            out += 1
        if block is None:
            self.name_fault(leaf.first, "label")
        label = block.labels[leaf.tree]
        goto = Goto(leaf.first, label, out, tuple(self.block.sequences))
        self.facts.gotos.append(goto)
        leaf.means = goto
        if label.placed is None:
            label.gotos.append(goto)
        elif label not in block.open_labels and label.sequence not in goto.sequences:
            self.name_fault(leaf.first, "goto")


def may_come_later(goto, sequence):
    """Whether a goto may go to a label that is placed behind it, in this sequence or in none."""
    if goto.out > 0:
        return sequence == OUTERMOST
    return sequence in goto.sequences
