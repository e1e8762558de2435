"""Reading the text of a seam, row by row: the first row that cannot stand there is told."""

from begunended.errors import BadSeam
from begunended.layoutforms import is_unit_name
from begunended.orderforms import number_within, order_read

DEEPEST = 6
# How many inner terms orders have; behind these stand the numbers of the row.
INNER = {
    "field": 1, "index": 2, "arm": 1, "window": 1, "add": 2, "sub": 2, "mul": 2, "div": 2, "mod": 2, "neg": 1,
    "abs": 1, "sqr": 1, "odd": 1, "ordt": 1, "ordc": 1, "chr": 1, "tru": 1, "and": 2, "or": 2, "not": 1, "eq": 2,
    "ne": 2, "lt": 2, "le": 2, "gt": 2, "ge": 2, "same": 2, "unlike": 2, "seq": 2, "sne": 2, "inside": 2,
    "around": 2, "one": 1, "span": 2, "join": 2, "meet": 2, "less": 2, "in": 2,
}
LEAVES = ("num", "truth", "sign", "set", "nil", "place", "handed", "hand")
HELD = ("n", "w")


def term_read(text):
    """The term that a text is, None if it is none."""
    reader = TermReader(text)
    term = reader.read(1)
    return term if reader.at == len(text) else None


class TermReader:
    """A text of a term, and how far it is read; behind what cannot be read nothing is."""

    def __init__(self, text):
        self.text = text
        self.at = 0

    def read(self, deep):
        """The term that begins here, None if there is none."""
        word = self.word_ahead()
        if deep > DEEPEST:
            return None
        if self.text[self.at:self.at + 1] != "(":
            return held_term(word)
        if word not in INNER and word not in LEAVES:
            return None
        inner = []
        words = []
        while self.text[self.at:self.at + 1] in ("(", ","):
            self.at += 1
            if len(inner) < INNER.get(word, 0):
                term = self.read(deep + 1)
                if term is None:
                    return None
                inner.append(term)
            else:
                words.append(self.word_ahead())
        if self.text[self.at:self.at + 1] != ")" or len(inner) < INNER.get(word, 0):
            return None
        self.at += 1
        # A set without numbers has nothing between its brackets.
        return term_of(word, inner, [] if words == [""] and word == "set" else words)

    def word_ahead(self):
        """The word up to the next bracket or comma."""
        begin = self.at
        while self.at < len(self.text) and self.text[self.at] not in "(),":
            self.at += 1
        return self.text[begin:self.at]


def held_term(word):
    """The term nK or wK that a word is, None if it is none."""
    if word[:1] not in HELD:
        return None
    number = number_within(word[1:], "from 0")
    return None if number is None else (word[0], (), (number,))


def term_of(word, inner, words):
    """A term of an order, None if the numbers or names behind it have not their form."""
    order = order_read([word, *words])
    if order is None:
        return None
    if word == "nil" or word == "hand":
        if not all([is_unit_name(name) for name in words]):
            return None
    return word, tuple(inner), order[1] if word == "set" else order[1:]


def term_text(term):
    """A term as it is written."""
    word, inner, told = term
    if word in HELD:
        return word + str(told[0])
    return word + "(" + ",".join([term_text(part) for part in inner] + [str(part) for part in told]) + ")"


def term_depth(term):
    """How deep a term is nested, 1 without others."""
    return 1 + max([0] + [term_depth(part) for part in term[1]])


def replaced(term, names, works):
    """A term in which others stand for nK and wK: None if one of them is lost, or not there.

    Names are the terms of those that are told, None for lost ones; works are all terms of things.
    """
    word, inner, told = term
    if word == "n":
        return names.get(told[0], term)
    if word == "w":
        return works[told[0]] if told[0] < len(works) else None
    parts = [replaced(part, names, works) for part in inner]
    return None if None in parts else (word, tuple(parts), told)


class Match:
    """A match: its rows, what the right's things and names hold there, and the numbers of its rows in the text.

    Works are terms; names terms by number, None for lost ones. Own_row is that of the match itself,
    work_rows and name_rows tell those of works and names.
    """

    def __init__(self, left, right, own_row):
        self.left = left
        self.right = right
        self.works = []
        self.names = {}
        self.own_row = own_row
        self.work_rows = []
        self.name_rows = {}


class SeamReader:
    """A seam that is being read: its rows, which one is next, matches by proc; begin_rows are those of procs."""

    def __init__(self, text):
        self.rows = [row.split(" ") for row in text.split("\n")]
        self.at = 0
        self.procs = {}
        self.begin_rows = {}

    def want(self, is_right):
        """Tells the next row as one that cannot stand there, unless it can."""
        if not is_right:
            raise BadSeam(self.at + 1)

    def is_next(self, word):
        return self.at < len(self.rows) and self.rows[self.at][0] == word

    def read(self):
        """Reads all rows."""
        self.read_proc()
        while self.at < len(self.rows):
            self.read_proc()

    def read_proc(self):
        """Reads a row proc, and its matches."""
        self.want(self.is_next("proc"))
        row = self.rows[self.at]
        self.want(len(row) == 2 and is_unit_name(row[1]) and row[1] not in self.procs)
        self.begin_rows[row[1]] = self.at + 1
        self.at += 1
        matches = [self.read_match(None)]
        while self.is_next("match"):
            matches.append(self.read_match(matches[-1]))
        self.procs[row[1]] = matches

    def read_match(self, ahead):
        """Reads a match, which stands behind the one ahead; the first one is match 0 0."""
        self.want(self.is_next("match"))
        row = self.rows[self.at]
        numbers = [number_within(word, "from 0") for word in row[1:]]
        self.want(len(numbers) == 2 and None not in numbers)
        if ahead is None:
            self.want(numbers == [0, 0])
        else:
            self.want((numbers[0], numbers[1]) > (ahead.left, ahead.right))
        match = Match(numbers[0], numbers[1], self.at + 1)
        self.at += 1
        while ahead is not None and self.is_next("work"):
            self.read_work(match)
        while self.is_next("lost") or ahead is not None and self.is_next("name"):
            self.read_name(match)
        return match

    def read_work(self, match):
        row = self.rows[self.at]
        term = term_read(row[1]) if len(row) == 2 else None
        self.want(term is not None)
        match.works.append(term)
        match.work_rows.append(self.at + 1)
        self.at += 1

    def read_name(self, match):
        """Reads a row name or lost, whose number is above those ahead of it."""
        row = self.rows[self.at]
        number = number_within(row[1], "from 0") if len(row) > 1 else None
        self.want(number is not None and number > max([-1] + list(match.names)))
        term = None
        if row[0] == "name":
            term = term_read(row[2]) if len(row) == 3 else None
            self.want(term is not None)
        else:
            self.want(len(row) == 2)
        match.names[number] = term
        match.name_rows[number] = self.at + 1
        self.at += 1
