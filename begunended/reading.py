"""Reading: the nodes of a text whose tokens are as the grammar tells."""

from begunended.dotrees import DOING_MAKERS
from begunended.errors import BadSyntax
from begunended.grammar import RULES
from begunended.grammartables import EMPTY, LEAST, STARTS
from begunended.nodes import LEAF_PARTS, Node
from begunended.openings import OPENINGS
from begunended.telltrees import TELLING_MAKERS

# Behind all that a part is made of stands this on the stack of what is to come.
CLOSE = ""
# Parts whose node is that of what they are made of, if this is one node.
PASSING = {"Expression": True, "Sum": True, "Term": True, "Statement": True, "Argument": True, "Item": True}


class Reader:
    """What was read of a text, and what is to come by the grammar, the next symbol last.

    Nodes are those that no part has yet. Parts are those that are being read: the name of each, the
    number of its first token, and how many nodes there were ahead of its own.
    """

    def __init__(self):
        self.pending = ["Text"]
        self.nodes = []
        self.parts = []
        self.many = 0
        self.makers = dict(TELLING_MAKERS)
        self.makers.update(dict(DOING_MAKERS))

    def go_by(self, rows):
        """Goes by tokens: whether all can stand there; if not, many tells the first that cannot, and all ends."""
        for sort, told, _, _ in rows:
            symbol = sort
            if sort == "word" or sort == "sign":
                symbol = told
            elif told == "forward" and sort == "name" and self.could_take("forward"):
                # No name can stand where forward can, so that it is none there.
                symbol = "forward"
            if not self.come_to(symbol):
                return False
            self.nodes.append(Node("leaf", LEAF_PARTS[sort], self.many, self.many, told))
            self.many += 1
        return True

    def could_take(self, symbol):
        """Whether a token with this symbol could stand here."""
        for top in reversed(self.pending):
            if top == symbol or (top, symbol) in OPENINGS:
                return True
            if top != CLOSE and top not in EMPTY:
                return False
        return False

    def come_to(self, symbol):
        """Opens and closes parts up to this token: whether it could stand here."""
        pending = self.pending
        while pending:
            top = pending.pop()
            if top == symbol:
                return True
            if top == CLOSE:
                self.close_part()
                continue
            opening = OPENINGS.get((top, symbol))
            if opening:
                for name in opening[0]:
                    self.parts.append((name, self.many, len(self.nodes)))
                pending.extend(opening[1])
                return True
            if opening is None and top not in EMPTY:
                return False
            if top in self.makers:
                # What has no node of its own, and no tokens, leaves nothing.
                self.end_part(top)
        return False

    def end_part(self, top):
        """Closes the part that ends here, or puts what it is made of in the place of one without tokens."""
        if top == CLOSE:
            self.close_part()
            return
        if top in self.makers:
            self.parts.append((top, self.many, len(self.nodes)))
            self.pending.append(CLOSE)
        for part in reversed(RULES[top][EMPTY[top]]):
            self.pending.append(part)

    def close_part(self):
        """Makes a node of the nodes of the part that ends here, unless it is that of its only one."""
        name, first, begin = self.parts.pop()
        if name in PASSING and len(self.nodes) == begin + 1:
            return
        maker = self.makers[name]
        children = self.nodes[begin:]
        del self.nodes[begin:]
        self.nodes.append(maker(children, first, self.many - 1))

    def could_stand(self):
        """The dict of what could stand here, and with how many tokens each goes on at least."""
        found = {}
        behind = sum([least_of(symbol) for symbol in self.pending])
        for top in reversed(self.pending):
            if top != CLOSE:
                behind -= least_of(top)
                for token, many in STARTS.get(top, ((top, 1),)):
                    found[token] = min(found.get(token, many + behind), many + behind)
                if top not in EMPTY:
                    return found
        found["(end)"] = 0
        return found

    def is_whole(self):
        """Whether what was read is a whole text."""
        return all([symbol == CLOSE for symbol in self.pending])

    def whole(self):
        """The node of the whole text that was read."""
        while self.pending:
            self.end_part(self.pending.pop())
        return self.nodes[0]


def least_of(symbol):
    """How many tokens a symbol has at least."""
    return 0 if symbol == CLOSE else LEAST.get(symbol, 1)


def read_tokens(rows):
    """A reader that went by all these tokens: BadSyntax unless they are a beginning."""
    reader = Reader()
    if not reader.go_by(rows):
        # What could stand there is told by one that read up to there alone.
        ahead = read_tokens(rows[:reader.many])
        _, _, line, column = rows[reader.many]
        raise BadSyntax((line, column, tuple(sorted(ahead.could_stand()))))
    return reader


def read_whole(text, rows):
    """The node of this text with these tokens: BadSyntax unless it is a whole one."""
    reader = read_tokens(rows)
    if not reader.is_whole():
        line, column = end_of(text)
        raise BadSyntax((line, column, tuple(sorted(reader.could_stand()))))
    return reader.whole()


def end_of(text):
    """The line and the column behind the end of a text."""
    return text.count("\n") + 1, len(text) - text.rfind("\n")
