"""The code of places."""

from begunended.kindforms import pieces_of

WAYS = ("index", "field", "aim")


def way_to(fields, telling):
    """The steps to a field of a record: (order, number, whether the arm's variant has no tag); None without one."""
    pieces = pieces_of(fields)
    if telling in pieces:
        return [("field", pieces.index(telling), False)]
    variant = fields.variant
    if variant is None:
        return None
    for number, arm in enumerate(variant.arms):
        rest = way_to(arm.fields, telling)
        if rest is not None:
            return [("field", len(pieces), False), ("arm", number, variant.tag is None), *rest]
    return None


class PlaceCode:
    """The code of a routine as it is made; own is what the routine has, plan what the program has."""

    def __init__(self, plan, code):
        self.plan = plan
        self.own = code

    def emit(self, *row):
        self.own.rows.append(row)

    def emit_all(self, orders):
        """Emits orders that stand alone."""
        for order in orders:
            self.emit(order)

    def name_place(self, telling):
        """The place of a variable, a parameter, or a function's result."""
        owner = self.owner_of(telling)
        self.emit("place", self.own.depth - owner.depth, owner.numbers[telling])

    def owner_of(self, telling):
        """The code of the routine around this one, or itself, that has a telling as a thing."""
        routine = self.own.telling
        while telling not in self.plan.codes[routine].numbers:
            routine = routine.outside
        return self.plan.codes[routine]

    def own_place(self, number):
        """The place of an own thing."""
        self.emit("place", 0, number)

    def place(self, node, is_left):
        """P of a place; on the left side of := arms without a tag come to live behind its last aim."""
        if node.word == "name":
            self.base_place(node, is_left)
            return
        ways = []
        base = node
        while base.word in WAYS:
            ways.append(base)
            base = base.parts[0]
        ways = list(reversed(ways))
        last_aim = max([-1] + [at for at, way in enumerate(ways) if way.word == "aim"])
        self.base_place(base, is_left and last_aim < 0)
        for at, way in enumerate(ways):
            self.way(way, is_left and at > last_aim)

    def base_place(self, node, is_left):
        """P of a name."""
        telling = node.means
        if telling.word == "field":
            scope = node.parts[0].spot
            self.own_place(self.own.numbers[scope])
            self.field(scope.kind, telling, is_left)
        else:
            self.name_place(telling)

    def way(self, node, is_left):
        """The rows of an index, a field, or ^, behind those of the place ahead of it."""
        kind = node.parts[0].kind
        if node.word == "index":
            self.emit_number(node.parts[1])
            self.emit("index", kind.index.low, kind.index.high)
        elif node.word == "field":
            self.field(kind, node.parts[1].means, is_left)
        elif kind.form == "pointer":
            self.emit_all(("load", "aim"))
        else:
            self.emit("window")

    def field(self, kind, telling, is_left):
        """F of a field of this record kind."""
        for order, number, is_untagged in way_to(kind.fields, telling):
            if is_untagged and is_left:
                self.emit("dup")
                self.emit("become", number)
            self.emit(order, number)
