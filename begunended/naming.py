"""Names: what a use means, and what may be told."""

from begunended.errors import BadKind, BadName
from begunended.required import FILES, RequiredRegion
from begunended.told import Block, Facts, Region


class Naming:
    """A text whose names and kinds are looked through, as far as that has come."""

    def __init__(self, rows):
        self.facts = Facts(rows)
        self.required = RequiredRegion()
        self.integer = self.required.integer
        self.boolean = self.required.boolean
        self.char = self.required.char
        self.region = Region(self.required, 0)
        self.block = Block(self.region, None, None)
        self.head = {}

    def name_fault(self, token, word):
        """Tells that a name or label is wrong, with the place of a token."""
        line, column = self.facts.place(token)
        raise BadName((line, column, word))

    def kind_fault(self, token, word):
        """Tells that a kind is wrong, with the place of a token."""
        line, column = self.facts.place(token)
        raise BadKind((line, column, word))

    def use(self, leaf):
        """The telling that a name means; the with that it is meant by is the leaf's spot."""
        for scope in reversed(self.block.withs):
            if leaf.tree in scope.kind.by_name:
                leaf.spot = scope
                return self.use_of(leaf, scope.kind.by_name[leaf.tree])
        self.required.make_ready(leaf.tree)
        self.region.mark(leaf.tree)
        return self.use_of(leaf, self.region.meaning(leaf.tree))

    def use_aside(self, leaf, region):
        """The telling that a name means in a region, which may tell it anew behind this use."""
        self.required.make_ready(leaf.tree)
        return self.use_of(leaf, region.meaning(leaf.tree))

    def use_of(self, leaf, telling):
        """Keeps a use of a telling, which is None if the name means nothing."""
        if telling is None:
            self.name_fault(leaf.first, "unknown")
        leaf.means = telling
        self.facts.uses.append((leaf.first, telling))
        if telling.region == self.required and telling.name in FILES:
            self.want_standard(leaf.first, telling.name)
        return telling

    def want_standard(self, token, name):
        """Tells, at a token, that the head does not tell input or output, unless it does."""
        if name not in self.head:
            self.name_fault(token, "file")

    def tell(self, telling, region):
        """Tells a name in a region, None for those of parameters' own parameters."""
        if region is None:
            return
        name = telling.name
        is_taken = region.outside == self.required and name in FILES and name in self.head
        if name in region.told or is_taken:
            self.name_fault(telling.token, "twice")
        if name in region.used:
            self.name_fault(telling.token, "ahead")
        region.told[name] = telling
        telling.region = region
        telling.depth = region.depth
        self.facts.tellings.append(telling)

    def tell_field(self, telling, record):
        """Tells a field of a record."""
        if telling.name in record.by_name:
            self.name_fault(telling.token, "twice")
        record.by_name[telling.name] = telling
        telling.depth = self.region.depth
        self.facts.tellings.append(telling)
