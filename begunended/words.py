"""Words of code: units as tuples of integers."""

from begunended.errors import BadUnit, BadWords
from begunended.orderforms import FORMS, whole_of
from begunended.signs import sign_of
from begunended.units import Unit
from begunended.values import is_integer, same_values

HEADS = ("layout", "signature", "needs", "proc", "takes", "gives", "names", "files", "work", "line", "label", "end")
INTEGER = 1000
SIGNS = 1001


def listed_words():
    """The words that have numbers, from 1 on, in sequence."""
    return [*HEADS, *FORMS, "-"]


def words(unit):
    """The integers of a unit: how many rows, for each how many words, and these."""
    numbers = {word: at + 1 for at, word in enumerate(listed_words())}
    rows = unit.text.split("\n")
    found = [len(rows)]
    for row in rows:
        told = row.split(" ")
        found.append(len(told))
        for word in told:
            found.extend(word_integers(word, numbers))
    return tuple(found)


def word_integers(word, numbers):
    """The integers of one word."""
    if word in numbers:
        return [numbers[word]]
    number = whole_of(word)
    if number is not None:
        return [INTEGER, number]
    return [SIGNS, len(word)] + [ord(sign) for sign in word]


def unit_of(integers):
    """The unit whose words these integers are."""
    if not isinstance(integers, tuple) or not all([is_integer(number) for number in integers]):
        raise BadWords(integers)
    text = WordReader(integers).text_read()
    try:
        unit = Unit(text)
    except BadUnit:
        raise BadWords(integers) from None
    # What has other words than these was read amiss.
    if not same_values(words(unit), integers):
        raise BadWords(integers)
    return unit


class WordReader:
    """Integers that are read as words, as far as they go; what they lack counts as 0."""

    def __init__(self, integers):
        self.integers = integers
        self.at = 0
        self.listed = listed_words()

    def next_integer(self):
        number = self.integers[self.at] if self.at < len(self.integers) else 0
        self.at += 1
        return number

    def text_read(self):
        """The text of all rows; what is no text of a unit if they are none."""
        rows = []
        for _ in range(self.bounded(self.next_integer())):
            many = self.bounded(self.next_integer())
            rows.append(" ".join([self.word_read() for _ in range(many)]))
        return "\n".join(rows)

    def bounded(self, many):
        """How often there can be something to be read, of so many times."""
        return max(0, min(many, len(self.integers) - self.at + 1))

    def word_read(self):
        number = self.next_integer()
        if number == INTEGER:
            return str(self.next_integer())
        if number == SIGNS:
            many = self.bounded(self.next_integer())
            return "".join([self.sign_read() for _ in range(many)])
        return self.listed[number - 1] if 1 <= number <= len(self.listed) else "?"

    def sign_read(self):
        number = self.next_integer()
        return sign_of(number) if 32 <= number <= 126 else "?"
