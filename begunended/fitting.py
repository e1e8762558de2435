"""Whether a seam fits two units: the first of its rows that does not."""

from begunended.errors import BadSeam

HELD_SORTS = ("n", "t", "c")


class Fitting:
    """The rows of a seam over a pair of units."""

    def __init__(self, pair):
        self.pair = pair

    def want_fit(self, seam):
        """Tells the first row that does not fit; one more than there are if procs are missing."""
        procs = list(self.pair.names)
        for at, name in enumerate(seam.procs):
            if at >= len(procs) or procs[at] != name:
                raise BadSeam(seam.begin_rows[name])
            for match in seam.procs[name]:
                self.want_match(name, match)
        if len(seam.procs) < len(procs):
            raise BadSeam(len(seam.text.split("\n")) + 1)

    def want_match(self, name, match):
        """Wants a match of rows that are come to, with works for all things, and fitting terms."""
        left = self.pair.left.walked[name].shapes
        right = self.pair.right.walked[name].shapes
        if match.left not in left or match.right not in right or len(match.works) != len(right[match.right]):
            raise BadSeam(match.own_row)
        for term, sort, row in zip(match.works, right[match.right], match.work_rows):
            if self.sort_of(name, left[match.left], term) != sort:
                raise BadSeam(row)
        for number, term in match.names.items():
            if number not in self.pair.names[name]:
                raise BadSeam(match.name_rows[number])
            sort = sort_held(self.pair.right.flow.procs[name].things[number])
            if term is not None and self.sort_of(name, left[match.left], term) != sort:
                raise BadSeam(match.name_rows[number])

    def sort_of(self, name, shape, term):
        """The sort of a term over the left's names and workspace, None if it has none."""
        word, inner, told = term
        flow = self.pair.left.flow
        proc = flow.procs[name]
        if word == "n":
            is_there = told[0] in self.pair.names[name] and not self.pair.is_own(name, told[0])
            return sort_held(proc.things[told[0]]) if is_there else None
        if word == "w":
            return shape[told[0]] if told[0] < len(shape) else None
        given = tuple([self.sort_of(name, shape, part) for part in inner])
        order = (word, told) if word == "set" else (word, *told)
        if None in given or not are_names_told(flow, order) or not flow.is_linked(proc, order):
            return None
        left = flow.left_by(proc, order, flow.takes_of(proc, order), given)
        return None if left is None else left[0]


def are_names_told(flow, order):
    """Whether a unit tells the layout, the proc, the signature that an order names."""
    if order[0] == "nil":
        return order[1] in flow.layout_texts
    return order[0] != "hand" or order[1] in flow.procs and order[2] in flow.headings


def sort_held(param):
    """The sort of what a private name holds: a place, if it is a hidden one."""
    return param if param in HELD_SORTS else "a[" + param[1:] + "]"


class SeamValues:
    """What the terms of a seam mean in a proc; hidden_names are the hidden ones that are private."""

    def __init__(self, terms, hidden):
        self.terms = terms
        self.hidden_names = hidden

    def name_meant(self, term):
        """The left's private name that a term stands for alone, None for others."""
        word, _, told = term
        if word == "n":
            return told[0]
        return told[1] if word == "place" and told[0] == 0 and told[1] in self.hidden_names else None

    def value_of(self, term, left):
        """The term of the judging, and the row of its fresh signs, by what the left holds; None without one."""
        number = self.name_meant(term)
        if number is not None:
            holding = left.held.holdings[number]
            if holding[0] == "init":
                return left.initial[holding[1]], None
            return (holding[1], None) if holding[0] == "val" else None
        word, inner, told = term
        if word == "w":
            return left.stack[told[0]]
        if word == "place" and told[0] == 0 and told[1] in left.bound:
            return left.bound[told[1]], None
        parts = [self.value_of(part, left) for part in inner]
        if None in parts:
            return None
        fresh = parts[0][1] if word in ("field", "index", "arm") else None
        order = (word, told) if word == "set" else (word, *told)
        return self.terms.order_term(order, tuple([part[0] for part in parts])), fresh

    def begin_right(self, right, left, match, own):
        """Puts into the right what a match tells that it holds; own are the names that the left has not."""
        right.stack = [(self.value_of(term, left)[0], None) for term in match.works]
        for number in right.names:
            term = match.names.get(number, ("n", (), (number,)))
            if term is None or number in own and number not in match.names:
                right.held.put(number, ("lost",))
            elif self.name_meant(term) is not None:
                right.held.put(number, ("init", self.name_meant(term)))
            else:
                right.held.put(number, ("val", self.value_of(term, left)[0]))

    def are_kept(self, right, left, match, own):
        """Whether the right holds what a match tells, by what the left holds there, and knows, at last."""
        told = [self.value_of(term, left) for term in match.works]
        known = left.known
        for value, thing in zip(told, right.stack):
            if value is None or not known.are_same((value[0],), (thing[0],)):
                return False
        if not are_rows_alike([value[1] for value in told], [fresh for _, fresh in right.stack]):
            return False
        for number in right.names:
            term = match.names.get(number, ("n", (), (number,)))
            is_told = number in match.names or number not in own
            if is_told and term is not None and not self.is_held(right, left, number, term):
                return False
        return True

    def is_held(self, right, left, number, term):
        """Whether a name of the right holds what a term tells."""
        held = right.held.resolved(number, left.known, right.initial)
        name = self.name_meant(term)
        if name is not None:
            wanted = left.held.resolved(name, left.known, left.initial)
        else:
            value = self.value_of(term, left)
            wanted = ("lost",) if value is None else ("val", left.known.same(value[0]))
        return held == wanted and held != ("lost",)


def are_rows_alike(ones, others):
    """Whether any two fresh places of one row on one side are so on the other, too."""
    for at, one in enumerate(ones):
        for number in range(at):
            if None not in (one, ones[number], others[at], others[number]):
                if (one == ones[number]) != (others[at] == others[number]):
                    return False
    return True
