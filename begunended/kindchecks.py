"""Constants and kinds, as they are told."""

from begunended.kindforms import cells_of_fields, has_layout
from begunended.kindlore import Arm, Fields, Kind, Variant, array_kind, file_kind, host_of, is_file, is_ordinal
from begunended.kindlore import set_kind, stretch_kind, string_kind, told_kind
from begunended.naming import Naming
from begunended.told import Telling

HIGHEST_MEMBER = 127


class KindChecks(Naming):
    """The constants and kinds of a text; aims are the ^names that wait for the end of a kinds part."""

    def __init__(self, rows):
        super().__init__(rows)
        self.aims = None

    def constant(self, node):
        """The kind of a constant, and its ordinal or its signs."""
        return self.signed_constant(node, node.first)

    def signed_constant(self, node, token):
        """Likewise; what is none is told at this token."""
        if node.word == "number":
            return self.integer, node.parts[0].tree
        if node.word == "string":
            return self.string_constant(node.parts[0].tree)
        if node.word == "name":
            telling = self.use(node.parts[0])
            if telling.word != "constant" and telling.word != "value":
                self.kind_fault(token, "constant")
            return telling.kind, telling.value
        kind, value = self.signed_constant(node.parts[0], token)
        if kind != self.integer:
            self.kind_fault(token, "constant")
        return kind, -value if node.word == "minus" else value

    def string_constant(self, signs):
        if len(signs) == 1:
            return self.char, ord(signs)
        return string_kind(len(signs)), signs

    def kind_of_name(self, leaf, telling):
        """The kind that a name means."""
        if telling.word != "kind":
            self.kind_fault(leaf.first, "kind")
        return telling.kind

    def kind_told(self, node):
        """The kind that is told here."""
        word = node.word
        if word == "name":
            return self.kind_of_name(node, self.use(node.parts[0]))
        if word == "told":
            return self.values_told(node)
        if word == "from":
            return self.stretch_told(node)
        if word == "array":
            return self.array_told(node)
        if word == "record":
            return self.record_told(node)
        if word == "set":
            return self.set_told(node)
        if word == "file":
            return file_kind(self.part_told(node.parts[0]))
        return self.pointer_told(node.parts[0])

    def part_told(self, node):
        """The kind of a member or field, which is no file."""
        kind = self.kind_told(node)
        if is_file(kind):
            self.kind_fault(node.first, "file")
        return kind

    def values_told(self, node):
        leaves = node.parts[0].parts
        kind = told_kind(tuple([leaf.tree for leaf in leaves]))
        for number, leaf in enumerate(leaves):
            telling = Telling(leaf.tree, "value", leaf.first)
            telling.kind = kind
            telling.value = number
            self.tell(telling, self.region)
        return kind

    def stretch_told(self, node):
        low_kind, low = self.constant(node.parts[0])
        high_kind, high = self.constant(node.parts[1])
        if low_kind != high_kind or not is_ordinal(low_kind) or low > high:
            self.kind_fault(node.parts[1].first, "stretch")
        return stretch_kind(low_kind, low, high)

    def array_told(self, node):
        is_packed, indices, member = node.parts
        kinds = []
        for index in indices.parts:
            kind = self.kind_told(index)
            if not is_ordinal(kind) or kind == self.integer:
                self.kind_fault(index.first, "ordinal")
            kinds.append(kind)
        kind = self.part_told(member)
        for index_kind in reversed(kinds):
            kind = array_kind(is_packed, index_kind, kind)
            self.want_layout(node, kind)
        return kind

    def want_layout(self, node, kind):
        if not has_layout(kind):
            self.kind_fault(node.first, "size")

    def set_told(self, node):
        base = self.kind_told(node.parts[0])
        if not is_ordinal(base):
            self.kind_fault(node.parts[0].first, "ordinal")
        if base.low < 0 or base.high > HIGHEST_MEMBER:
            self.kind_fault(node.parts[0].first, "set")
        return set_kind(base)

    def record_told(self, node):
        kind = Kind("record")
        kind.is_packed, fields = node.parts
        kind.by_name = {}
        kind.fields = self.fields_told(fields, kind)
        kind.cells = cells_of_fields(kind.fields)
        self.want_layout(node, kind)
        return kind

    def fields_told(self, node, record):
        """The fields of a record, or of one of its arms."""
        fields = Fields()
        for row in node.parts[0].parts:
            names, kind_node = row.parts
            tellings = [self.field_told(leaf, record) for leaf in names.parts]
            kind = self.part_told(kind_node)
            for telling in tellings:
                telling.kind = kind
                fields.rows.append(telling)
        if node.parts[1] is not None:
            fields.variant = self.variant_told(node.parts[1], record)
        return fields

    def field_told(self, leaf, record):
        telling = Telling(leaf.tree, "field", leaf.first)
        self.tell_field(telling, record)
        return telling

    def variant_told(self, node, record):
        tag_leaf, name, arms = node.parts
        tag = None
        if tag_leaf is not None:
            tag = self.field_told(tag_leaf, record)
            tag.is_tag = True
        kind = self.kind_of_name(name, self.use(name))
        if not is_ordinal(kind):
            self.kind_fault(name.first, "ordinal")
        if tag is not None:
            tag.kind = kind
        variant = Variant(tag, kind)
        if tag is not None:
            tag.variant = variant
        taken = {}
        for arm in arms.parts:
            constants, fields = arm.parts
            numbers = [self.choice(constant, kind, taken, "arm") for constant in constants.parts]
            variant.arms.append(Arm(numbers, self.fields_told(fields, record)))
        return variant

    def choice(self, node, kind, taken, word):
        """The ordinal of a constant of an arm or a case, which none ahead of it has."""
        constant_kind, number = self.constant(node)
        if constant_kind != host_of(kind) or number in taken:
            self.kind_fault(node.first, word)
        taken[number] = True
        return number

    def pointer_told(self, leaf):
        kind = Kind("pointer")
        kind.aim_name = leaf.tree
        self.facts.pointers.append(kind)
        if self.aims is None:
            self.aim_at(kind, leaf)
        else:
            self.aims.append((kind, leaf))
        return kind

    def aim_at(self, kind, leaf):
        """Finds what a pointer kind aims at."""
        kind.aim = self.kind_of_name(leaf, self.use_aside(leaf, self.region))
        if is_file(kind.aim):
            self.kind_fault(leaf.first, "file")

    def aims_at_end(self):
        """Finds what all ^names of the kinds part that ends here mean."""
        for kind, leaf in self.aims:
            self.aim_at(kind, leaf)
        self.aims = None
