"""Blocks, routines and the whole text."""

from begunended.errors import Wide
from begunended.kindforms import signature_key
from begunended.kindlore import is_file, is_ordinal
from begunended.required import FILES
from begunended.statementchecks import StatementChecks
from begunended.told import Block, Label, Region, Telling

HIGHEST_LABEL = 9999
MOST_ROUTINES = 12
HIGHEST_LEVEL = 9
MOST_LAYOUTS = 24
LONGEST_SIGNATURE = 40


class BlockChecks(StatementChecks):
    """The blocks of a text."""

    def check_text(self, root):
        """Looks through the whole text: what is first known to be wrong is told."""
        leaf, head, block = root.parts
        for name in head.parts:
            if name.tree in self.head:
                self.name_fault(name.first, "twice")
            self.head[name.tree] = name
        program = Telling(leaf.tree, "program", leaf.first)
        program.number = 0
        program.inner = self.region
        self.facts.routines.append(program)
        self.check_block(block, program)
        self.check_width()
        return self.facts

    def check_block(self, node, routine):
        """Looks through a block of a routine, or of the program."""
        outer_region, outer_block = self.region, self.block
        self.region = routine.inner
        self.block = Block(self.region, routine, None if routine.outside is None else outer_block)
        self.routines.append(routine)
        routine.block = node
        labels, constants, kinds, variables, routines, statements, begin, end = node.parts
        self.tell_labels(labels.parts)
        self.tell_constants(constants.parts)
        self.tell_kinds(kinds.parts)
        self.tell_variables(variables.parts)
        for inner in routines.parts:
            self.check_routine(inner)
        if routine.outside is None:
            self.check_head()
        self.check_given(begin)
        self.check_sequence(statements)
        for label in self.block.labels.values():
            if label.placed is None:
                self.name_fault(end.first, "label")
        self.routines.pop()
        self.region, self.block = outer_region, outer_block

    def tell_labels(self, leaves):
        for leaf in leaves:
            if leaf.tree in self.block.labels:
                self.name_fault(leaf.first, "twice")
            if leaf.tree > HIGHEST_LABEL:
                self.name_fault(leaf.first, "label")
            self.block.labels[leaf.tree] = Label(leaf.tree)

    def tell_constants(self, nodes):
        for node in nodes:
            leaf, constant = node.parts
            telling = Telling(leaf.tree, "constant", leaf.first)
            telling.kind, telling.value = self.constant(constant)
            self.tell(telling, self.region)

    def tell_kinds(self, nodes):
        self.aims = []
        for node in nodes:
            leaf, kind = node.parts
            telling = Telling(leaf.tree, "kind", leaf.first)
            telling.kind = self.kind_told(kind)
            self.tell(telling, self.region)
        self.aims_at_end()

    def tell_variables(self, nodes):
        for node in nodes:
            leaves, kind_node = node.parts
            kind = self.kind_told(kind_node)
            for leaf in leaves.parts:
                telling = Telling(leaf.tree, "variable", leaf.first)
                telling.kind = kind
                self.tell(telling, self.region)

    def check_head(self):
        """Looks through the names of the head, where the program begins."""
        for name, leaf in self.head.items():
            telling = self.use_aside(leaf, self.region)
            is_own = telling.word == "variable" and telling.region == self.region and is_file(telling.kind)
            if name not in FILES and not is_own:
                self.name_fault(leaf.first, "file")
            self.facts.head_files.append(telling)

    def check_given(self, begin):
        """Wants all routines of the region to be given where its block begins."""
        for telling in self.region.told.values():
            if telling.is_waiting:
                self.name_fault(begin.first, "forward")

    def check_routine(self, node):
        """Looks through a routine, whose heading may be a second one."""
        leaf, parameters, result, body = node.parts
        telling = self.region.told.get(leaf.tree)
        if telling is None or not telling.is_waiting:
            telling = self.tell_routine(node)
        else:
            self.use_of(leaf, telling)
            is_other = node.word != telling.calling or parameters.parts or result is not None
            if is_other or body.word == "forward":
                self.name_fault(leaf.first, "forward")
        telling.is_waiting = body.word == "forward"
        if not telling.is_waiting:
            self.check_block(body, telling)

    def tell_routine(self, node):
        """Tells the name of a routine, and its parameters."""
        leaf, parameters, result, _ = node.parts
        telling = Telling(leaf.tree, "routine", leaf.first)
        telling.calling = node.word
        self.tell(telling, self.region)
        telling.number = len(self.facts.routines)
        telling.outside = self.block.routine
        telling.inner = Region(self.region, self.region.depth + 1)
        self.facts.routines.append(telling)
        self.tell_parameters(parameters.parts, telling, telling.inner)
        if result is not None:
            self.tell_result(result, telling)
        elif node.word == "function":
            self.name_fault(leaf.first, "forward")
        return telling

    def tell_parameters(self, nodes, routine, region):
        """Tells the parameters of a routine in a region, None for those of a parameter."""
        for node in nodes:
            if node.word == "value" or node.word == "var":
                self.tell_row(node, routine, region)
            else:
                self.tell_handed(node, routine, region)

    def tell_row(self, node, routine, region):
        leaves, name = node.parts
        tellings = []
        for leaf in leaves.parts:
            telling = Telling(leaf.tree, "parameter", leaf.first)
            telling.mode = node.word
            self.tell(telling, region)
            tellings.append(telling)
            routine.parameters.append(telling)
        kind = self.kind_outside(name)
        if node.word == "value" and is_file(kind):
            self.kind_fault(name.first, "file")
        for telling in tellings:
            telling.kind = kind

    def tell_handed(self, node, routine, region):
        """Tells a parameter that is a routine."""
        leaf, parameters, result = node.parts
        telling = Telling(leaf.tree, "parameter", leaf.first)
        telling.mode = node.word
        telling.calling = node.word
        self.tell(telling, region)
        routine.parameters.append(telling)
        self.facts.handed.append(telling)
        self.tell_parameters(parameters.parts, telling, None)
        if result is not None:
            self.tell_result(result, telling)

    def kind_outside(self, leaf):
        """The kind that a name of a heading means."""
        return self.kind_of_name(leaf, self.use_aside(leaf, self.region))

    def tell_result(self, leaf, telling):
        kind = self.kind_outside(leaf)
        if is_file(kind):
            self.kind_fault(leaf.first, "file")
        if not is_ordinal(kind) and kind.form != "pointer":
            self.kind_fault(leaf.first, "result")
        telling.kind = kind

    def check_width(self):
        """Names what pointers aim at, and wants no more of anything than there may be."""
        aims = []
        for pointer in self.facts.pointers:
            aim = pointer.aim
            if aim not in aims:
                aim.layout_name = "l" + str(len(aims))
                aims.append(aim)
        signatures = []
        for telling in self.facts.handed:
            key = signature_key(telling)
            if key not in signatures:
                signatures.append(key)
        if max(len(self.facts.routines), len(signatures)) > MOST_ROUTINES:
            raise Wide(MOST_ROUTINES)
        if max([telling.inner.depth for telling in self.facts.routines]) > HIGHEST_LEVEL:
            raise Wide(HIGHEST_LEVEL)
        if len(aims) > MOST_LAYOUTS:
            raise Wide(MOST_LAYOUTS)
        if [telling for telling in self.facts.handed if len(telling.parameters) > LONGEST_SIGNATURE]:
            raise Wide(LONGEST_SIGNATURE)
