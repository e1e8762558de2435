"""What is known of terms on a way: stretches of numbers, names that are surely set; terms that are the same."""

from begunended.stretches import FULL, common, product, quotient, rest, sum_of
from begunended.values import MAXINT


class Known:
    """Facts are the stretches that claims tell of terms; is_set holds the left's names that were surely set."""

    def __init__(self, terms):
        self.terms = terms
        self.facts = {}
        self.is_set = {}
        self.stretches = {}
        self.alike = {}

    def copied(self):
        """What is known now, by itself."""
        other = Known(self.terms)
        other.facts = dict(self.facts)
        other.is_set = dict(self.is_set)
        return other

    def meet(self, term, low, high):
        """Learns a stretch of a term: whether anything is left of it."""
        found = self.stretch(term)
        found = None if found is None else common(found, (low, high))
        if found is None:
            return False
        if self.facts.get(term) != found:
            self.facts[term] = found
            self.settle()
        return True

    def settle(self):
        """Learns of terms that are the same as others what is known of these."""
        is_settled = False
        while not is_settled:
            is_settled = True
            self.stretches = {}
            self.alike = {}
            for term in list(self.facts):
                other = self.rebuilt(term)
                if other != term and self.terms.sorts[other] in FULL:
                    known = self.facts.get(other, FULL[self.terms.sorts[other]])
                    found = common(known, self.facts[term])
                    if found is not None and self.facts.get(other) != found:
                        self.facts[other] = found
                        is_settled = False

    def stretch(self, term):
        """The stretch of a term of the sort n, t or c, None if nothing is left of it."""
        if term not in self.stretches:
            found = self.own_stretch(term)
            other = self.rebuilt(term)
            if other != term:
                twin = self.own_stretch(other)
                found = None if found is None or twin is None else common(found, twin)
            self.stretches[term] = found
        return self.stretches[term]

    def span(self, term):
        """The stretch of a term, the full one if nothing is left."""
        found = self.stretch(term)
        return FULL[self.terms.sorts[term]] if found is None else found

    def own_stretch(self, term):
        """What a term's parts, and facts, tell of it."""
        found = common(FULL[self.terms.sorts[term]], self.reckoned(term))
        if found is None or term not in self.facts:
            return found
        return common(found, self.facts[term])

    def reckoned(self, term):
        """What a term's parts tell of it, whatever maxint is."""
        word, parts, told = self.terms.nodes[term]
        if word == "sum":
            return self.sum_reckoned(parts, told)
        if word == "mul":
            return self.product_reckoned(parts)
        if word == "truth" or word == "sign":
            return told[0], told[0]
        if word in ("div", "mod"):
            spans = self.span(parts[0]), self.span(parts[1])
            found = quotient(*spans) if word == "div" else rest(*spans)
            return FULL["n"] if found is None else found
        if word == "abs":
            return 0, MAXINT
        if word == "ordt" or word == "ordc":
            return self.span(parts[0])
        if word == "le" or word == "eq":
            return decided(word, self.sum_reckoned_of(parts[0]))
        if word == "not":
            low, high = self.span(parts[0])
            return 1 - high, 1 - low
        return FULL[self.terms.sorts[term]]

    def sum_reckoned(self, parts, told):
        """The stretch of a sum of these parts."""
        found = (told[0], told[0])
        for part, count in zip(parts, told[1:]):
            found = sum_of(found, product(self.span(part), (count, count)))
        return found

    def sum_reckoned_of(self, term):
        """The stretch of a number that need not be within maxint."""
        word, parts, told = self.terms.nodes[term]
        if word != "sum":
            return self.span(term)
        found = self.sum_reckoned(parts, told)
        known = common(found, self.facts.get(term, found))
        return found if known is None else known

    def unbounded(self, term):
        """The stretch of what sums and products make, whatever maxint is."""
        if self.terms.nodes[term][0] != "mul":
            return self.sum_reckoned_of(term)
        found = self.product_reckoned(self.terms.nodes[term][1])
        known = common(found, self.facts.get(term, found))
        return found if known is None else known

    def product_reckoned(self, parts):
        """The stretch of a product."""
        found = product(self.span(parts[0]), self.span(parts[1]))
        if parts[0] == parts[1]:
            return max(0, found[0]), found[1]
        return found

    def rebuilt(self, term):
        """A term with such parts as are told, where their stretches are one number."""
        if term not in self.alike:
            _, parts, _ = self.terms.nodes[term]
            others = tuple([self.same(part) for part in parts])
            self.alike[term] = term if others == parts else self.terms.made_anew(term, others)
        return self.alike[term]

    def same(self, term):
        """The one term that stands for all that are the same."""
        sort = self.terms.sorts[term]
        if sort in FULL:
            low, high = self.span(term)
            if low == high:
                return self.terms.as_number(sort, low)
        return self.rebuilt(term)

    def are_same(self, ones, others):
        """Whether terms are the same, one by one."""
        return [self.same(term) for term in ones] == [self.same(term) for term in others]

    def truth_of(self, term):
        """Whether a truth holds, None if that is not known."""
        row = self.terms.row_of(self.same(term))
        return None if row is None else row[1] == 1


def decided(word, stretch):
    """What a stretch tells of whether a number is at most 0, or is 0."""
    low, high = stretch
    if word == "le":
        return (1, 1) if high <= 0 else ((0, 0) if low > 0 else (0, 1))
    if low > 0 or high < 0:
        return 0, 0
    return (1, 1) if low == high else (0, 1)
