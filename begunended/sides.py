"""One side of a judging: what a way holds by terms, and what it did."""


class Refused(ValueError):
    """A way on which something is refused, with its word."""

    def __init__(self, word):
        ValueError.__init__(self, word)
        self.word = word


class Event:
    """What a way does that the other one must do: an order, terms, the line; held are the names as they were."""

    def __init__(self, order, terms, line, held):
        self.order = order
        self.terms = terms
        self.line = line
        self.held = held


class Held:
    """The private names of a side: what each holds, and which are surely set on this way.

    A name holds ("val", term), ("init", K) for what the left's name K held at first, ("unset",) or
    ("lost",).
    """

    def __init__(self):
        self.holdings = {}
        self.set_here = {}

    def copied(self):
        other = Held()
        other.holdings = dict(self.holdings)
        other.set_here = dict(self.set_here)
        return other

    def put(self, number, holding):
        """Keeps what a name holds from now on."""
        self.holdings[number] = holding
        self.set_here[number] = holding[0] == "val"

    def resolved(self, number, known, initial):
        """What a name holds, ("val", term) if it is surely set."""
        holding = self.holdings[number]
        if holding[0] == "init" and (self.set_here[number] or holding[1] in known.is_set):
            return "val", known.same(initial[holding[1]])
        return ("val", known.same(holding[1])) if holding[0] == "val" else holding


class Side:
    """A way of one unit as it goes on.

    Names are the sorts of its private names by number, initial the terms of what the left's hold at first.
    Stack are pairs of a term and the row string whose fresh signs it is among, or None; bound what
    hidden names that are not private were bound to; attempted the orders that may trap and were done; events
    what happened, gone_by the rows; stored the place and the value of a store that is the last deed.
    Known is what is known now; befores are what was known ahead of each event, on the left.
    """

    def __init__(self, terms, names, initial, known):
        self.terms = terms
        self.names = names
        self.initial = initial
        self.known = known
        self.is_left = False
        self.held = Held()
        self.stack = []
        self.bound = {}
        self.attempted = []
        self.events = []
        self.befores = []
        self.went_by = []
        self.gone_by = {}
        self.stored = None
        self.time = 0
        self.line = None

    def copied(self):
        """A side alike, by itself."""
        other = Side(self.terms, self.names, self.initial, self.known.copied())
        other.is_left = self.is_left
        other.held = self.held.copied()
        other.stack = list(self.stack)
        other.bound = dict(self.bound)
        other.attempted = list(self.attempted)
        other.events = list(self.events)
        other.befores = list(self.befores)
        other.went_by = list(self.went_by)
        other.gone_by = {row: True for row in self.gone_by}
        other.stored = self.stored
        other.time = self.time
        other.line = self.line
        return other

    def take(self):
        """Takes the upper thing: its term."""
        return self.stack.pop()[0]

    def take_all(self, many):
        """Takes so many things: their terms, from the lower to the upper one."""
        return tuple(list(reversed([self.take() for _ in range(many)])))

    def leave(self, term):
        self.stack.append((term, None))

    def event(self, order, terms):
        """Keeps what happens, and what is known ahead of it."""
        held = self.held.copied() if order[0] in ("call", "callh") else None
        self.events.append(Event(order, terms, self.line, held))
        if self.is_left:
            self.befores.append(self.known.copied())

    def deed(self, order, terms):
        """An event behind which there is a new time."""
        self.event(order, terms)
        self.time += 1
        self.stored = None

    def attempt(self, order, terms, is_barred, is_timed):
        """Does an order that may trap: an event, unless it is barred, or was done with the same terms."""
        time = self.time if is_timed else None
        if not is_barred and not self.was_done(order, terms, time):
            self.event(order, terms)
        self.attempted.append((order, terms, time))

    def was_done(self, order, terms, time):
        """Whether an order was done on this way with the same terms, and at this time."""
        for known, others, moment in self.attempted:
            if known == order and moment == time and self.known.are_same(terms, others):
                return True
        return False
