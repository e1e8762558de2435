"""Judging: whether a seam shows that two units have the same doing."""

from begunended.checking import walks_let
from begunended.errors import BadSeam, BadValue
from begunended.fitting import Fitting, SeamValues
from begunended.knowing import Known
from begunended.pairs import Pair, is_hidden
from begunended.seamreading import Match
from begunended.seams import Seam
from begunended.sides import Refused, Side
from begunended.terms import Terms
from begunended.walking import Walker
from begunended.ways import LeftWays, RightWay


def judged(left, right, seam):
    """("sewn",), or the first match at which something is refused, and the word for it."""
    walks_let(left)
    walks_let(right)
    if not have_same_heads(left, right):
        raise BadValue(right)
    if not isinstance(seam, Seam):
        raise BadSeam(0)
    pair = Pair(left, right)
    Fitting(pair).want_fit(seam)
    for name in left.procs:
        found = ProcJudge(pair, name, seam.procs[name]).judged()
        if found is not None:
            return "not", name, *found
    return ("sewn",)


def have_same_heads(left, right):
    """Whether two units differ in code, work, and names behind the left's alone."""
    if heads_of(left) != heads_of(right):
        return False
    for name, proc in left.proc_table.items():
        other = right.proc_table[name]
        if (proc.around, proc.takes, proc.gives) != (other.around, other.takes, other.gives):
            return False
        if proc.outside_names != other.outside_names or proc.things != other.things[:len(proc.things)]:
            return False
    return True


def heads_of(unit):
    """The rows layout and signature, and the names of the procs."""
    return [row for row in unit.text.split("\n") if row.split(" ")[0] in ("layout", "signature", "proc")]


class ProcJudge:
    """A proc of a pair, and the matches of a seam in it, those of the labels of far behind the others."""

    def __init__(self, pair, name, matches):
        self.pair = pair
        self.name = name
        self.matches = matches
        self.sides = Walker(pair.left, name), Walker(pair.right, name)
        things = pair.right.flow.procs[name].things
        self.sorts = {}
        self.hidden_names = []
        for number in pair.names[name]:
            is_here_hidden = is_hidden(pair.right.flow.procs[name], number)
            self.sorts[number] = "p" if is_here_hidden else things[number]
            if is_here_hidden:
                self.hidden_names.append(number)
        self.own = [number for number in pair.names[name] if pair.is_own(name, number)]
        self.told = {(match.left, match.right): match for match in matches}

    def judged(self):
        """None, or the number of the first match at which something is refused, and the word."""
        far_ends = self.far_ends()
        for ends in far_ends:
            if ends in self.told and self.told[ends].names:
                return 0, "far"
        others = [Match(left, right, 0) for left, right in sorted(far_ends) if (left, right) not in self.told]
        for number, match in enumerate([*self.matches, *others]):
            word = self.refused(match)
            if word is not None:
                return number, word
        return None

    def far_ends(self):
        """The rows, in both, of labels to which a far of the left leads, come to in both."""
        found = []
        for label in self.pair.far_labels[self.name]:
            rows = [walker.proc.labels.get(label) for walker in self.sides]
            if rows[0] in self.sides[0].shapes and rows[1] in self.sides[1].shapes:
                found.append((rows[0], rows[1]))
        return found

    def refused(self, match):
        """The word by which something behind a match is refused, or None."""
        terms = Terms()
        values = SeamValues(terms, self.hidden_names)
        left = self.left_side(terms, match)
        begin = left.copied()
        found = LeftWays(self.sides[0], self.pair.states, self.name, {row: True for row, _ in self.told})
        found.find(left, match.left)
        for way in found.ways:
            right = Side(terms, self.sorts, begin.initial, way.side.known)
            right.line = begin.line
            values.begin_right(right, begin, match, self.own)
            word = self.way_refused(way, right, match, values)
            if word is not None:
                return word
        return None

    def left_side(self, terms, match):
        """The left at a match."""
        initial = {}
        for number, sort in self.sorts.items():
            if number not in self.own:
                initial[number] = terms.term("n", (), (number,), sort)
        side = Side(terms, {number: self.sorts[number] for number in initial}, initial, Known(terms))
        side.is_left = True
        side.line = self.line_at(match)
        for number in initial:
            side.held.put(number, ("init", number))
        places = self.pair.left.places[self.name][match.left]
        for at, sort in enumerate(self.sides[0].shapes[match.left]):
            if at in places and places[at] in initial:
                side.leave(terms.order_term(("place", 0, places[at]), ()))
            else:
                side.leave(terms.term("w", (), (at,), "p" if sort.startswith("a[") else sort[0]))
        return side

    def line_at(self, match):
        """The line of both units at a match, None if no ways tell just one."""
        for side_unit, row in ((self.pair.left, match.left), (self.pair.right, match.right)):
            lines = list(side_unit.lines[self.name][row])
            if len(lines) == 1:
                return lines[0]
        return None

    def way_refused(self, way, right, match, values):
        """The word by which something on a way is refused, or None."""
        if way.word is not None or way.ended_by[0] == "none":
            return way.word
        arrivals = {ends[1]: True for ends in self.told if way.ended_by == ("match", ends[0])}
        try:
            row = RightWay(self.sides[1], way, arrivals).follow(right, match.right)
        except Refused as refused:
            return refused.word
        if not are_events_same(way, right):
            return "event"
        if row is not None:
            arrived = self.told[(way.ended_by[1], row)]
            if not values.are_kept(right, way.side, arrived, self.own):
                return "term"
            if right.line != way.side.line:
                return "line"
        return "far" if self.pair.far_labels[self.name] and not self.are_calls_alike(way, right) else None

    def are_calls_alike(self, way, right):
        """Whether the right's private names hold at each call what the left's do."""
        for at, (event, other) in enumerate(zip(way.side.events, right.events)):
            known = way.known_at(at)
            if event.held is not None:
                for number in way.side.names:
                    one = event.held.resolved(number, known, way.side.initial)
                    if other.held.resolved(number, known, right.initial) != one:
                        return False
        return True


def are_events_same(way, right):
    """Whether both did the same, in sequence."""
    if len(way.side.events) != len(right.events):
        return False
    for at, (event, other) in enumerate(zip(way.side.events, right.events)):
        if event.order != other.order or event.line != other.line:
            return False
        if not way.known_at(at).are_same(event.terms, other.terms):
            return False
    return True
