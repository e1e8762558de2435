"""What is reckoned of the grammar: with which tokens parts begin, how many they have at least.

`python3 -m tests.grammar_reckoning`, from the top of the repository, writes begunended/grammartables.py and
begunended/openings.py anew, which is needed where the grammar is changed; a test looks whether it was.
"""

from begunended.grammar import RULES

# More tokens than any part needs at least.
MANY = 1000


class Beginnings:
    """What the grammar tells of each part: its least length, and its way behind each first token."""

    def __init__(self):
        self.rules = RULES
        self.least = least_lengths(self.rules)
        self.starts = {}
        self.ways = {}
        for part in self.rules:
            self.starts_of(part)
        for part in self.rules:
            self.ways[part] = self.ways_of(part)

    def least_of(self, symbol):
        """How many tokens a symbol has at least."""
        return self.least.get(symbol, 1)

    def starts_of(self, symbol):
        """The dict of the first tokens of a symbol, and with how many tokens each goes on at least."""
        if symbol not in self.rules:
            return {symbol: 1}
        if symbol not in self.starts:
            found = {}
            for way in self.rules[symbol]:
                lessen(found, self.starts_of_row(way))
            self.starts[symbol] = found
        return self.starts[symbol]

    def starts_of_row(self, symbols):
        """Likewise for symbols in a row."""
        found = {}
        behind = sum([self.least_of(symbol) for symbol in symbols])
        for symbol in symbols:
            behind -= self.least_of(symbol)
            starts = self.starts_of(symbol)
            lessen(found, {token: starts[token] + behind for token in starts})
            if self.least_of(symbol) > 0:
                break
        return found

    def ways_of(self, part):
        """The dict of first tokens of a part and the way that each leads to; by "" the empty way."""
        found = {}
        for way in self.rules[part]:
            for token in self.starts_of_row(way):
                found[token] = way
            if sum([self.least_of(symbol) for symbol in way]) == 0:
                found[""] = way
        return found


def least_lengths(rules):
    """The dict of parts and how many tokens each has at least."""
    least = {part: MANY for part in rules}
    changed = True
    while changed:
        changed = False
        for part, ways in rules.items():
            lengths = [sum([least.get(symbol, 1) for symbol in way]) for way in ways]
            if min(lengths) < least[part]:
                least[part] = min(lengths)
                changed = True
    return least


def lessen(found, others):
    """Takes the numbers of others into found, where they are new or less."""
    for token, many in others.items():
        if many < found.get(token, MANY):
            found[token] = many


def openings(beginnings, makers):
    """For each part and token it may begin with: the parts that are opened, and what is to come behind it.

    Where a part ends ahead of the token there are none: it is opened step by step, by empty ways.
    """
    found = {}
    for part in beginnings.rules:
        for token in beginnings.starts_of(part):
            pending, opened = [part], []
            while pending[-1] != token and pending[-1] != "":
                top = pending.pop()
                ways = beginnings.ways[top]
                if top in makers:
                    opened.append(top)
                    pending.append("")
                pending.extend(reversed(ways[token] if token in ways else ways[""]))
            found[part, token] = (tuple(opened), tuple(pending[:-1])) if pending[-1] == token else ()
    return found


def tables():
    """The dict of the names of all tables and what they are."""
    from begunended.dotrees import DOING_MAKERS
    from begunended.telltrees import TELLING_MAKERS
    beginnings = Beginnings()
    rules = beginnings.rules
    return {
        "LEAST": {part: beginnings.least_of(part) for part in rules},
        "STARTS": {part: tuple(sorted(beginnings.starts_of(part).items())) for part in rules},
        "EMPTY": {
            part: rules[part].index(beginnings.ways[part][""]) for part in rules if "" in beginnings.ways[part]},
        "OPENINGS": openings(beginnings, {**TELLING_MAKERS, **DOING_MAKERS}),
    }


COMMENTS = {
    "LEAST": "How many tokens each part has at least.",
    "STARTS": "With which tokens each part may begin, and how many it has then at least.",
    "EMPTY": "Of the parts that may have no tokens the numbers of their ways that have none.",
    "OPENINGS": "By part and first token: the parts that are opened, and what is to come behind the token, the next last.",
}


def written(name, table):
    """The rows of a module that tell a table, none longer than 120 signs."""
    rows = ["# " + COMMENTS[name], name + " = {"]
    row = "   "
    for key, value in table.items():
        entry = " {}: {},".format(repr(key), repr(value)).replace("'", '"')
        if len(entry) > 116:
            rows += [row, "    {}: (".format(repr(key)).replace("'", '"')] + wrapped(value) + ["    ),"]
            row, entry = "   ", ""
        if len(row) + len(entry) > 120:
            rows.append(row)
            row = "   "
        row += entry
    return [row for row in rows + [row] if row != "   "] + ["}"]


def wrapped(things):
    """The rows of things that are too many for one."""
    rows, row = [], "       "
    for thing in things:
        word = " " + repr(thing).replace("'", '"') + ","
        if len(row) + len(word) > 120:
            rows.append(row)
            row = "       "
        row += word
    return rows + [row]


FILES = {"grammartables": ("LEAST", "STARTS", "EMPTY"), "openings": ("OPENINGS",)}


def module(file):
    """The text of a file with tables."""
    rows = ['"""What the grammar is read by, reckoned of its rows: tests.grammar_reckoning writes this file."""']
    for name in FILES[file]:
        rows += [""] + written(name, tables()[name])
    return "\n".join(rows) + "\n"


if __name__ == "__main__":
    for told in FILES:
        with open("begunended/{}.py".format(told), "w", encoding="utf-8") as target:
            target.write(module(told))
