"""What a text tells: names, regions, labels, and what is found out of all of it."""

from begunended.values import is_place

class Telling:
    """A name that is told: what it is told as, and the number of its token (None for required names).

    Kind is that of a constant, value, variable, parameter, field, or of a function's result, or the
    kind itself; value is a constant's ordinal or signs. Calling is procedure or function for all that
    can be called; variant is that of a tag, block the node of a routine's block.
    """

    def __init__(self, name, word, token):
        self.name = name
        self.word = word
        self.token = token
        self.depth = 0
        self.region = None
        self.kind = None
        self.value = None
        self.mode = None
        self.calling = None
        self.parameters = []
        self.number = None
        self.outside = None
        self.inner = None
        self.is_waiting = False
        self.is_threatened = False
        self.is_tag = False
        self.variant = None
        self.block = None


class Region:
    """Where names are told: the names told so far, and those used so far with an outer meaning."""

    def __init__(self, outer, level):
        self.outside = outer
        self.depth = level
        self.told = {}
        self.used = {}

    def meaning(self, name):
        """The telling in the innermost region that has one, None without one."""
        region = self
        while region is not None:
            if name in region.told:
                return region.told[name]
            region = region.outside
        return None

    def mark(self, name):
        """Keeps in mind that this name was used, in all regions that do not tell it themselves."""
        region = self
        while region is not None and name not in region.told:
            region.used[name] = True
            region = region.outside


class Block:
    """The block whose statements are looked through: its routine, and what is open in it."""

    def __init__(self, region, routine, outer):
        self.region = region
        self.routine = routine
        self.outside = outer
        self.labels = {}
        self.many_sequences = 0
        self.sequences = []
        self.open_labels = []
        self.withs = []
        self.fors = []


class Label:
    """A label of a block: the token that places it, the sequence of its statement, or None."""

    def __init__(self, number):
        self.number = number
        self.placed = None
        self.sequence = None
        self.gotos = []


class Goto:
    """A goto: its integer's token, its label, how many blocks it leaves, the sequences it stands in."""

    def __init__(self, token, label, out, sequences):
        self.token = token
        self.label = label
        self.out = out
        self.sequences = sequences


class Spot:
    """A place: its kind, whether it is part of a packed one, or a tag, and the name that it is alone."""

    def __init__(self, kind, is_packed, is_tag, telling):
        self.kind = kind
        self.is_packed = is_packed
        self.is_tag = is_tag
        self.telling = telling


class With:
    """A record that a with opened: the node of its place, its kind, whether it is packed."""

    def __init__(self, node, spot):
        self.node = node
        self.kind = spot.kind
        self.is_packed = spot.is_packed or spot.kind.is_packed


class Facts:
    """What was found out of a text, whose tokens are rows.

    Uses are pairs of a token's number and a telling; spans are (first token, last token, kind, whether
    it is a place); handed are the parameters that are routines, routines those that are told, in the
    sequence of the text; head_files are those of the head, in its sequence.
    """

    def __init__(self, rows):
        self.rows = rows
        self.tellings = []
        self.uses = []
        self.routines = []
        self.gotos = []
        self.spans = []
        self.pointers = []
        self.handed = []
        self.head_files = []

    def place(self, token):
        """The line and the column of the token with this number."""
        return self.rows[token][2:]

    def line_of(self, token):
        """The line of the token with this number."""
        return self.rows[token][2]


def telling_at(facts, place):
    """The telling at this line and column, None if there is none."""
    if not is_place(place):
        return None
    for telling in facts.tellings:
        if facts.place(telling.token) == place:
            return telling
    return None


def kind_at(facts, place):
    """The kind of the variable, parameter (value, var) or field that is told here, or None."""
    telling = telling_at(facts, place)
    if telling is None:
        return None
    if telling.word in ("variable", "field") or telling.mode == "value" or telling.mode == "var":
        return telling.kind
    return None
