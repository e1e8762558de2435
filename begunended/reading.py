"""Reading: the nodes of a text whose tokens are as the grammar tells."""

from begunended.dotrees import DOING_MAKERS
from begunended.errors import BadSyntax
from begunended.nodes import leaf
from begunended.telltrees import TELLING_MAKERS

# Behind all that a part is made of stands this on the stack of what is to come.
CLOSE = ""


class Part:
    """A part that is being read: what it is made of so far, and the number of its first token."""

    def __init__(self, name, first):
        self.name = name
        self.first = first
        self.children = []


class Reader:
    """What was read of a text, and what is to come by the grammar, the next symbol last."""

    def __init__(self, beginnings):
        self.beginnings = beginnings
        self.pending = ["Text"]
        self.parts = [Part("", 0)]
        self.many = 0

    def take(self, sort, told):
        """Goes by a token: whether it could stand here; if not nothing is changed."""
        symbol = self.symbol_of(sort, told)
        if not self.could_take(symbol):
            return False
        while self.pending[-1] != symbol:
            self.open_part(symbol)
        self.pending.pop()
        self.parts[-1].children.append(leaf(sort, told, self.many))
        self.many += 1
        return True

    def symbol_of(self, sort, told):
        """What the grammar calls a token."""
        if sort == "word" or sort == "sign":
            return told
        # No name can stand where forward can, so that it is none there.
        if told == "forward" and sort == "name" and self.could_take("forward"):
            return "forward"
        return sort

    def could_take(self, symbol):
        """Whether a token with this symbol could stand here."""
        for top in reversed(self.pending):
            if top != CLOSE:
                if symbol in self.beginnings.starts_of(top):
                    return True
                if self.beginnings.least_of(top) > 0:
                    return False
        return False

    def open_part(self, symbol):
        """Puts what it is made of in the place of the next part, or closes the part that ends here."""
        top = self.pending.pop()
        if top == CLOSE:
            self.close_part()
            return
        ways = self.beginnings.ways[top]
        way = ways[symbol] if symbol in ways else ways[CLOSE]
        if top in TELLING_MAKERS or top in DOING_MAKERS:
            self.parts.append(Part(top, self.many))
            self.pending.append(CLOSE)
        for part in reversed(way):
            self.pending.append(part)

    def close_part(self):
        part = self.parts.pop()
        if part.name in TELLING_MAKERS:
            maker = TELLING_MAKERS[part.name]
        else:
            maker = DOING_MAKERS[part.name]
        node = maker(part.children, part.first, self.many - 1)
        self.parts[-1].children.append(node)

    def could_stand(self):
        """The dict of what could stand here, and with how many tokens each goes on at least."""
        found = {}
        behind = sum([self.beginnings.least_of(symbol) for symbol in self.pending if symbol != CLOSE])
        for top in reversed(self.pending):
            if top != CLOSE:
                behind -= self.beginnings.least_of(top)
                starts = self.beginnings.starts_of(top)
                for token in starts:
                    found[token] = min(found.get(token, starts[token] + behind), starts[token] + behind)
                if self.beginnings.least_of(top) > 0:
                    return found
        found["(end)"] = 0
        return found

    def is_whole(self):
        """Whether what was read is a whole text."""
        return all([symbol == CLOSE for symbol in self.pending])

    def whole(self):
        """The node of the whole text that was read."""
        while self.pending:
            self.open_part(CLOSE)
        return self.parts[0].children[0]


def read_tokens(rows, beginnings):
    """A reader that went by all these tokens: BadSyntax unless they are a beginning."""
    reader = Reader(beginnings)
    for sort, told, line, column in rows:
        if not reader.take(sort, told):
            raise BadSyntax((line, column, tuple(sorted(reader.could_stand()))))
    return reader


def read_whole(text, rows, beginnings):
    """The node of this text with these tokens: BadSyntax unless it is a whole one."""
    reader = read_tokens(rows, beginnings)
    if not reader.is_whole():
        line, column = end_of(text)
        raise BadSyntax((line, column, tuple(sorted(reader.could_stand()))))
    return reader.whole()


def end_of(text):
    """The line and the column behind the end of a text."""
    return text.count("\n") + 1, len(text) - text.rfind("\n")
