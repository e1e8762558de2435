"""Places and expressions: of what kind each one is."""

from begunended.kindchecks import KindChecks
from begunended.kindlore import Kind, do_agree, host_of, is_file, is_ordinal, may_compare, may_put, set_kind
from begunended.kindlore import string_length
from begunended.told import Spot

COMPARED = ("=", "<>", "<", ">", "<=", ">=")
WAYS = ("index", "field", "aim")


class ValueChecks(KindChecks):
    """The places and expressions of a text; routines are those in whose blocks they stand."""

    def __init__(self, rows):
        super().__init__(rows)
        self.nothing = Kind("nil")
        self.no_members = Kind("[]")
        self.routines = []

    def note(self, node, kind, is_place):
        """Keeps the kind of an expression or a place; other expressions count as of hosts."""
        node.kind = kind if is_place else self.counted(kind)
        self.facts.spans.append((node.first, node.last, node.kind, is_place))
        return node.kind

    def counted(self, kind):
        if kind.form == "set" and kind.base != host_of(kind.base):
            return set_kind(host_of(kind.base))
        return host_of(kind)

    def want_agreed(self, node, is_right):
        if not is_right:
            self.kind_fault(node.first, "alike")

    def want_put(self, node, into, kind):
        """Wants an expression of this kind to be one that may be put into another kind."""
        if is_file(kind):
            self.kind_fault(node.first, "file")
        self.want_agreed(node, may_put(into, kind))

    def name_spot(self, node):
        """What place a name is, None for what is none; never the name of a kind."""
        leaf = node.parts[0]
        telling = self.use(leaf)
        node.means = telling
        if telling.word == "kind":
            self.kind_fault(node.first, "kind")
        if telling.word == "field":
            return Spot(telling.kind, leaf.spot.is_packed, telling.is_tag, None)
        if telling.word == "variable" or telling.mode == "value" or telling.mode == "var":
            return Spot(telling.kind, False, False, telling)
        return None

    def note_spot(self, node, spot):
        node.spot = spot
        self.note(node, spot.kind, True)
        return spot

    def place_spot(self, node):
        """What place this is, where one is wanted."""
        spot = self.name_spot(node) if node.word == "name" else self.way_spot(node)
        if spot is None:
            self.kind_fault(node.first, "place")
        return self.note_spot(node, spot)

    def way_spot(self, node):
        """What place comes of another one by [ . ^."""
        base = self.place_spot(node.parts[0])
        sign = node.parts[-1].first
        if node.word == "index":
            return self.member_spot(base, node.parts[1], sign)
        if node.word == "field":
            return self.field_spot(base, node.parts[1], sign)
        if base.kind.form == "pointer":
            return Spot(base.kind.aim, False, False, None)
        if not is_file(base.kind):
            self.kind_fault(sign, "pointer")
        return Spot(base.kind.member, False, False, None)

    def member_spot(self, base, index, sign):
        if base.kind.form != "array":
            self.kind_fault(sign, "array")
        self.want_agreed(index, do_agree(base.kind.index, self.kind_of(index)))
        return Spot(base.kind.member, base.is_packed or base.kind.is_packed, False, None)

    def field_spot(self, base, leaf, sign):
        if base.kind.form != "record":
            self.kind_fault(sign, "record")
        if leaf.tree not in base.kind.by_name:
            self.kind_fault(leaf.first, "field")
        telling = self.use_of(leaf, base.kind.by_name[leaf.tree])
        return Spot(telling.kind, base.is_packed or base.kind.is_packed, telling.is_tag, None)

    def kind_of(self, node):
        """The kind of an expression."""
        word = node.word
        if word in WAYS:
            return self.place_spot(node).kind
        if word == "name":
            return self.kind_of_meant(node)
        if word == "number":
            return self.note(node, self.integer, False)
        if word == "string":
            return self.note(node, self.string_constant(node.parts[0].tree)[0], False)
        if word == "nil":
            return self.note(node, self.nothing, False)
        if word == "set":
            return self.note(node, self.set_of_items(node.parts[0].parts), False)
        if word == "call":
            return self.note(node, self.kind_of_call(node), False)
        if word == "plus" or word == "minus" or word == "not":
            wanted = self.boolean if word == "not" else self.integer
            operand = node.parts[0]
            self.want_agreed(operand, host_of(self.kind_of(operand)) == wanted)
            return self.note(node, wanted, False)
        return self.kind_of_both(node, word)

    def kind_of_meant(self, node):
        """The kind of an expression that is a name alone."""
        spot = self.name_spot(node)
        if spot is not None:
            return self.note_spot(node, spot).kind
        telling = node.means
        if telling.word == "constant" or telling.word == "value":
            return self.note(node, telling.kind, False)
        return self.note(node, self.kind_of_bare_call(node, telling), False)

    def kind_of_both(self, node, sign):
        """The kind that comes of two operands."""
        one = self.kind_of(node.parts[0])
        other = self.kind_of(node.parts[1])
        kind = self.outcome(sign, one, other)
        self.want_agreed(node.parts[1], kind is not None)
        return self.note(node, kind, False)

    def outcome(self, sign, one, other):
        """The kind that comes of a sign between two kinds, None if it cannot stand there."""
        if sign in COMPARED:
            return self.boolean if may_compare(sign, one, other) else None
        if sign == "in":
            return self.boolean if is_ordinal(one) and self.is_set_of(other, host_of(one)) else None
        if sign == "and" or sign == "or":
            return self.boolean if host_of(one) == self.boolean and host_of(other) == self.boolean else None
        if host_of(one) == self.integer and host_of(other) == self.integer:
            return self.integer
        are_sets = one.form in ("set", "[]") and other.form in ("set", "[]")
        if sign in ("+", "-", "*") and are_sets and do_agree(one, other):
            return other if one.form == "[]" else one
        return None

    def is_set_of(self, kind, host):
        return kind.form == "[]" or kind.form == "set" and host_of(kind.base) == host

    def set_of_items(self, items):
        """The kind of a set with these items."""
        host = None
        for item in items:
            for node in item.parts if item.word == "to" else (item,):
                kind = self.kind_of(node)
                if not is_ordinal(kind):
                    self.kind_fault(node.first, "ordinal")
                host = host_of(kind) if host is None else host
                self.want_agreed(node, host_of(kind) == host)
        return self.no_members if host is None else set_kind(host)

    def want_condition(self, node):
        if host_of(self.kind_of(node)) != self.boolean:
            self.kind_fault(node.first, "condition")

    def is_written(self, kind):
        """Whether a text file can be told values of this kind."""
        return host_of(kind) in (self.integer, self.char, self.boolean) or string_length(kind) > 0
