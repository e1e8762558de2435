"""Terms by which seams are judged: each in its normal form, and by a number of its own.

A term is kept as (word, the numbers of its parts, what else is told of it). Numbers are sums: an
integer and other terms, each with an integer ahead of it; a comparison of ordinals is `le`, that a sum
is at most 0, or `eq`, that it is 0. Things met are `met`, told by their order, its words, and the time.
"""

from begunended.errors import Wide
from begunended.worked import worked_out

MOST_WAYS = 80
DEEPEST = 12
# The sorts of what orders leave; p stands for all places.
SORTS = {
    "mul": "n", "div": "n", "mod": "n", "abs": "n", "odd": "t", "ordt": "n", "ordc": "n", "chr": "c", "tru": "t",
    "and": "t", "or": "t", "same": "t", "seq": "t", "inside": "t", "around": "t", "one": "s", "span": "s",
    "join": "s", "meet": "s", "less": "s", "in": "t", "field": "p", "index": "p", "arm": "p", "aim": "p",
    "window": "p", "place": "p", "string": "p", "nil": "^", "handed": "@", "hand": "@",
}
UNLIKE = {"ne": "eq", "sne": "seq", "unlike": "same"}


class Terms:
    """All terms of a judging; those that are alike have one number."""

    def __init__(self):
        self.nodes = []
        self.sorts = []
        self.depths = []
        self.known_terms = {}

    def term(self, word, parts, told, sort):
        """The number of a term as it is kept: Wide if it is nested too deep."""
        key = (word, parts, told)
        if key not in self.known_terms:
            depth = max([0] + [self.depths[part] for part in parts])
            if word not in ("sum", "not") or not parts:
                depth += 1
            if depth > DEEPEST:
                raise Wide(MOST_WAYS)
            self.known_terms[key] = len(self.nodes)
            self.nodes.append(key)
            self.sorts.append(sort)
            self.depths.append(depth)
        return self.known_terms[key]

    def met(self, order, parts, time, sort):
        """A thing that is met when an order is done at a time."""
        return self.term("met", parts, (*order, time), sort)

    def integer_term(self, number):
        return self.term("sum", (), (number,), "n")

    def truth_term(self, number):
        return self.term("truth", (), (number,), "t")

    def told_row(self, row):
        """What a row num, truth, sign or set leaves."""
        if row[0] == "num":
            return self.integer_term(row[1])
        if row[0] == "set":
            return self.term("set", (), row[1], "s")
        return self.term(row[0], (), (row[1],), "t" if row[0] == "truth" else "c")

    def row_of(self, term):
        """The row that leaves a told value, None for other terms."""
        word, parts, told = self.nodes[term]
        if word == "set":
            return "set", told
        if word == "sum" and not parts:
            return "num", told[0]
        return (word, told[0]) if word in ("truth", "sign") else None

    def as_number(self, sort, number):
        """The term of a number of the sort n, t or c, told by its ordinal."""
        words = {"n": "num", "t": "truth", "c": "sign"}
        return self.told_row((words[sort], number))

    def sum_parts(self, term):
        """The integer of a number, and the dict of its terms with the integers ahead of them."""
        word, parts, told = self.nodes[term]
        if word != "sum":
            return 0, {term: 1}
        return told[0], {part: many for part, many in zip(parts, told[1:])}

    def sum_term(self, number, many):
        """A number of these parts."""
        parts = tuple(sorted([part for part in many if many[part] != 0]))
        if number == 0 and len(parts) == 1 and many[parts[0]] == 1:
            return parts[0]
        return self.term("sum", parts, (number, *[many[part] for part in parts]), "n")

    def sum_of(self, terms, counts, number):
        """So many times each of some numbers, and an integer."""
        many = {}
        for term, count in zip(terms, counts):
            told, parts = self.sum_parts(term)
            number = number + told * count
            for part in parts:
                many[part] = many.get(part, 0) + parts[part] * count
        return self.sum_term(number, many)

    def order_term(self, order, parts):
        """What an order makes of terms, but for things met."""
        word = order[0]
        rows = [self.row_of(part) for part in parts]
        if parts and None not in rows:
            row = worked_out(order, rows)
            if row is not None:
                return self.told_row(row)
        if word in ("num", "truth", "sign", "set"):
            return self.told_row(order)
        if word in ("add", "sub", "neg", "mul", "sqr"):
            return self.number_term(word, parts)
        if word in ("eq", "lt", "le", "gt", "ge"):
            return self.compared(word, self.ordinal(parts[0]), self.ordinal(parts[1]))
        if word == "not":
            return self.negated(parts[0])
        if word in UNLIKE:
            return self.negated(self.order_term((UNLIKE[word],), parts))
        if word == "and" or word == "or":
            return self.both(word, parts)
        if word == "same" and self.nodes[parts[0]][0] == "nil" == self.nodes[parts[1]][0]:
            return self.truth_term(1)
        told = order[1] if word == "string" else order[1:]
        return self.term(word, tuple(parts), tuple(told), SORTS[word])

    def number_term(self, word, parts):
        """What the orders make that are reckoned as sums, and products."""
        if word == "add":
            return self.sum_of(parts, (1, 1), 0)
        if word == "sub":
            return self.sum_of(parts, (1, -1), 0)
        if word == "neg":
            return self.sum_of(parts, (-1,), 0)
        one, other = parts[0], parts[-1]
        for term, twin in ((one, other), (other, one)):
            row = self.row_of(term)
            if row is not None:
                return self.sum_of((twin,), (row[1],), 0)
        return self.term("mul", tuple(sorted([one, other])), (), "n")

    def ordinal(self, term):
        """The number that a term of the sort n, t or c is told by."""
        sort = self.sorts[term]
        if sort == "n":
            return term
        return self.order_term(("ordt" if sort == "t" else "ordc",), (term,))

    def compared(self, word, one, other):
        """What a comparison but ne makes of numbers."""
        if word == "eq":
            return self.none_left(self.sum_of((one, other), (1, -1), 0))
        if word == "lt" or word == "le":
            return self.at_most(self.sum_of((one, other), (1, -1), 1 if word == "lt" else 0))
        return self.at_most(self.sum_of((one, other), (-1, 1), 1 if word == "gt" else 0))

    def at_most(self, number):
        """That a number is at most 0."""
        row = self.row_of(number)
        if row is not None:
            return self.truth_term(1 if row[1] <= 0 else 0)
        return self.term("le", (number,), (), "t")

    def none_left(self, number):
        """That a number is 0, whatever its sign."""
        row = self.row_of(number)
        if row is not None:
            return self.truth_term(1 if row[1] == 0 else 0)
        told, many = self.sum_parts(number)
        if many[min(many)] < 0:
            number = self.sum_of((number,), (-1,), 0)
        return self.term("eq", (number,), (), "t")

    def negated(self, term):
        """That a truth is none."""
        word, parts, told = self.nodes[term]
        if word == "truth":
            return self.truth_term(1 - told[0])
        if word == "not":
            return parts[0]
        if word == "le":
            return self.at_most(self.sum_of(parts, (-1,), 1))
        return self.term("not", (term,), (), "t")

    def both(self, word, parts):
        """And, or, in which told truths fall away."""
        for term, twin in ((parts[0], parts[1]), (parts[1], parts[0])):
            row = self.row_of(term)
            if row is not None:
                return twin if (row[1] == 1) == (word == "and") else term
        return self.term(word, tuple(parts), (), "t")

    def made_anew(self, term, parts):
        """A term with other parts."""
        word, _, told = self.nodes[term]
        if word == "sum":
            return self.sum_of(parts, told[1:], told[0])
        if word == "le":
            return self.at_most(parts[0])
        if word == "eq":
            return self.none_left(parts[0])
        if word == "met":
            return self.term(word, tuple(parts), told, self.sorts[term])
        return self.order_term((word, *told), tuple(parts))

    def has_window(self, term):
        """Whether a place is found through a window."""
        word, parts, _ = self.nodes[term]
        while word in ("field", "index", "arm"):
            word, parts, _ = self.nodes[parts[0]]
        return word == "window"
