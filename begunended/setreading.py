"""Reading of set texts and sayings, and what they hold, ordinal by ordinal.

What a set text means is kept as steps that a stack does: a name as a string, told ordinals as an
integer with a bit for each, and the signs + - *, each in a tuple of its own.
"""

from begunended.errors import BadToken
from begunended.tokens import WORDS, is_figure, is_letter, tokens
from begunended.values import is_integer

HIGHEST = 127
MOST_NAMES = 8
RELATIONS = ("=", "<>", "<=", ">=")
TIGHT = ("*",)
LOOSE = ("+", "-")


class Saying:
    """A saying: its relation, the steps of both sides, or the number that is said to be in the right one."""

    def __init__(self, relation, left, right, number):
        self.relation = relation
        self.left = left
        self.right = right
        self.number = number


def tokens_of(text):
    """The (sort, told) of the tokens of a text, None for what is no text."""
    try:
        return [row[:2] for row in tokens(text)]
    except BadToken:
        return None


def steps_of(rows):
    """The steps of the set text that these tokens are, None if they are none."""
    reader = SetReader(rows)
    if not reader.is_read() or len(names_of(reader.steps)) > MOST_NAMES:
        return None
    return reader.steps


class SetReader:
    """A set text that is being read: its tokens, its steps so far, signs and brackets that are open."""

    def __init__(self, rows):
        self.rows = rows
        self.at = 0
        self.steps = []
        self.waiting = []

    def is_read(self):
        """Whether all the tokens are a set text."""
        if not self.read_factor():
            return False
        while self.at < len(self.rows):
            sort, told = self.rows[self.at]
            self.at += 1
            if sort != "sign" or told not in ("+", "-", "*", ")"):
                return False
            if told == ")":
                self.end_terms(TIGHT + LOOSE)
                if not self.waiting:
                    return False
                self.waiting.pop()
            else:
                self.end_terms(TIGHT if told == "*" else TIGHT + LOOSE)
                self.waiting.append(told)
                if not self.read_factor():
                    return False
        self.end_terms(TIGHT + LOOSE)
        return not self.waiting

    def end_terms(self, signs):
        """Does what waits with one of these signs."""
        while self.waiting and self.waiting[-1] in signs:
            self.steps.append((self.waiting.pop(),))

    def read_factor(self):
        """Reads the brackets that open here and the name or the items behind them: whether these stand there."""
        while self.is_next("("):
            self.waiting.append("(")
            self.at += 1
        if self.at >= len(self.rows):
            return False
        sort, told = self.rows[self.at]
        if sort == "name":
            self.steps.append(told)
            self.at += 1
            return True
        if not self.is_next("["):
            return False
        self.at += 1
        return self.read_items()

    def is_next(self, sign):
        return self.at < len(self.rows) and self.rows[self.at] == ("sign", sign)

    def read_items(self):
        """Reads what stands behind [ and up to ]: whether these are items."""
        held = 0
        if self.is_next("]"):
            self.at += 1
            self.steps.append(held)
            return True
        while True:
            low = self.read_ordinal()
            high = low
            if self.is_next(".."):
                self.at += 1
                high = self.read_ordinal()
            if low is None or high is None:
                return False
            held = held | stretch_bits(low, high)
            if self.is_next("]"):
                self.at += 1
                self.steps.append(held)
                return True
            if not self.is_next(","):
                return False
            self.at += 1

    def read_ordinal(self):
        """The ordinal that is next, which is gone by; None if there is none."""
        if self.at >= len(self.rows):
            return None
        sort, told = self.rows[self.at]
        self.at += 1
        return told if sort == "number" and told <= HIGHEST else None


def stretch_bits(low, high):
    """The bits of all ordinals from low to high."""
    bits = 0
    for ordinal in range(low, high + 1):
        bits = bits | 1 << ordinal
    return bits


def names_of(steps):
    """The ascending list of the names that stand in steps."""
    return sorted(list({step: True for step in steps if isinstance(step, str)}))


def read_set(text):
    """The steps of a set text, None for what is none."""
    rows = tokens_of(text)
    return None if rows is None else steps_of(rows)


def read_saying(text):
    """The saying that a text is, None for what is none."""
    rows = tokens_of(text)
    if rows is None:
        return None
    for at, (sort, told) in enumerate(rows):
        if sort in ("sign", "word") and (told in RELATIONS or told == "in"):
            return saying_of(rows[:at], told, rows[at + 1:])
    return None


def saying_of(left, relation, right):
    """The saying of both sides of a relation, None if one of them is wrong."""
    held = steps_of(right)
    if relation == "in":
        is_number = len(left) == 1 and left[0][0] == "number" and left[0][1] <= HIGHEST
        return Saying(relation, [], held, left[0][1]) if is_number and held is not None else None
    other = steps_of(left)
    return None if held is None or other is None else Saying(relation, other, held, None)


def names_of_saying(saying):
    return names_of(saying.left + saying.right)


def held_by(steps, sets, most):
    """What steps hold, as bits, where names hold the bits that sets tells; most has all bits."""
    stack = []
    for step in steps:
        if isinstance(step, str):
            stack.append(sets[step])
        elif isinstance(step, tuple):
            right = stack.pop()
            left = stack.pop()
            stack.append(joined_bits(left, right, step[0], most))
        else:
            stack.append(step)
    return stack[0]


def joined_bits(left, right, sign, most):
    if sign == "+":
        return left | right
    if sign == "*":
        return left & right
    return left & (most ^ right)


def ordinals_of(bits):
    """The ascending tuple of the ordinals whose bits stand."""
    return tuple([ordinal for ordinal in range(HIGHEST + 1) if bits >> ordinal & 1])


def bits_of(ordinals):
    """The bits of an ascending tuple of ordinals, None for what is none."""
    if not isinstance(ordinals, tuple) or not all([is_ordinal(value) for value in ordinals]):
        return None
    if not all([one < other for one, other in zip(ordinals, ordinals[1:])]):
        return None
    return sum([1 << ordinal for ordinal in ordinals])


def is_ordinal(value):
    return is_integer(value) and 0 <= value <= HIGHEST


def is_name(value):
    """Whether this is a name as set texts tell it."""
    if not isinstance(value, str) or value == "" or value in WORDS or not is_letter(value[0]):
        return False
    return value == value.lower() and all([is_letter(sign) or is_figure(sign) for sign in value])


def read_world(value):
    """The dict of names and bits of a world, None for what is none."""
    if not isinstance(value, tuple):
        return None
    sets = {}
    ahead = ""
    for row in value:
        if not isinstance(row, tuple) or len(row) != 2 or not is_name(row[0]) or row[0] <= ahead:
            return None
        bits = bits_of(row[1])
        if bits is None:
            return None
        ahead = row[0]
        sets[ahead] = bits
    return sets
