"""With which tokens parts of the grammar begin, and how many tokens they have at least."""

from begunended.grammar import all_rules

# More tokens than any part needs at least.
MANY = 1000


class Beginnings:
    """What the grammar tells of each part: its least length, and its way behind each first token."""

    def __init__(self):
        self.rules = all_rules()
        self.least = least_lengths(self.rules)
        self.starts = {}
        self.ways = {}
        for part in self.rules:
            self.starts_of(part)
        for part in self.rules:
            self.ways[part] = self.ways_of(part)

    def least_of(self, symbol):
        """How many tokens a symbol has at least."""
        return self.least.get(symbol, 1)

    def starts_of(self, symbol):
        """The dict of the first tokens of a symbol, and with how many tokens each goes on at least."""
        if symbol not in self.rules:
            return {symbol: 1}
        if symbol not in self.starts:
            found = {}
            for way in self.rules[symbol]:
                lessen(found, self.starts_of_row(way))
            self.starts[symbol] = found
        return self.starts[symbol]

    def starts_of_row(self, symbols):
        """Likewise for symbols in a row."""
        found = {}
        behind = sum([self.least_of(symbol) for symbol in symbols])
        for symbol in symbols:
            behind -= self.least_of(symbol)
            starts = self.starts_of(symbol)
            lessen(found, {token: starts[token] + behind for token in starts})
            if self.least_of(symbol) > 0:
                break
        return found

    def ways_of(self, part):
        """The dict of first tokens of a part and the way that each leads to; by "" the empty way."""
        found = {}
        for way in self.rules[part]:
            for token in self.starts_of_row(way):
                found[token] = way
            if sum([self.least_of(symbol) for symbol in way]) == 0:
                found[""] = way
        return found


def least_lengths(rules):
    """The dict of parts and how many tokens each has at least."""
    least = {part: MANY for part in rules}
    changed = True
    while changed:
        changed = False
        for part, ways in rules.items():
            lengths = [sum([least.get(symbol, 1) for symbol in way]) for way in ways]
            if min(lengths) < least[part]:
                least[part] = min(lengths)
                changed = True
    return least


def lessen(found, others):
    """Takes the numbers of others into found, where they are new or less."""
    for token, many in others.items():
        if many < found.get(token, MANY):
            found[token] = many
