"""The forms of the rows of code: what each order's words may be, and what they are read as."""

from begunended.values import MAXINT

TRAP_WORDS = (
    "unset", "stretch", "index", "member", "beyond", "nought", "below", "case", "arm", "nil", "gone", "full", "deep",
    "file", "end", "figures", "width",
)
COMPARISONS = ("eq", "ne", "lt", "le", "gt", "ge")
# By orders, in the sequence of the document: what each further word is.
FORMS = {
    "num": ("whole",), "truth": ("truth",), "sign": ("sign",), "set": ("members",), "nil": ("layout",),
    "string": ("signs",), "place": ("from 0", "from 0"), "handed": ("from 0", "from 0"), "bind": ("from 0",),
    "field": ("from 0",), "arm": ("from 0",), "become": ("from 0",), "lives": ("arms",), "index": ("ends",),
    "aim": (), "window": (), "load": (), "store": (), "move": (), "unset": (), "drop": (), "dup": (),
    "look": ("ends",), "within": ("ends",), "add": (), "sub": (), "mul": (), "div": (), "mod": (), "neg": (),
    "abs": (), "sqr": (), "odd": (), "ordt": (), "ordc": (), "chr": (), "tru": (), "and": (), "or": (), "not": (),
    "eq": (), "ne": (), "lt": (), "le": (), "gt": (), "ge": (), "same": (), "unlike": (), "seq": (), "sne": (),
    "inside": (), "around": (), "one": (), "span": (), "join": (), "meet": (), "less": (), "in": (),
    "text": ("comparison",), "jump": ("own label",), "unless": ("own label",), "table": ("labels",),
    "call": ("proc",), "callh": ("signature",), "hand": ("proc", "signature"), "leave": (), "far": ("from 1", "label"),
    "new": (), "gone": (), "reset": (), "rewrite": (), "get": (), "put": (), "eof": (), "eoln": (), "readn": (),
    "readc": (), "readln": (), "writeln": (), "writen": (), "writet": (), "writec": (), "writes": (), "trap": ("trap",),
}
# The least and the greatest of numbers that stand alone.
BOUNDS = {
    "whole": (-2147483647, 2147483647), "truth": (0, 1), "sign": (32, 126), "from 0": (0, 2147483647),
    "from 1": (1, 2147483647),
    "own label": (0, 99), "label": (0, 99), "line": (1, 9999), "work": (0, 99), "member": (0, 127),
}
# Forms that take all further words: how many these are at least and at most.
LENGTHS = {"members": (0, 128), "signs": (1, 255), "arms": (1, 65), "ends": (2, 2), "labels": (2, 65)}
NO_LABEL = "-"
NAMING = {"nil": True, "call": True, "callh": True, "hand": True, "jump": True, "unless": True, "table": True}


def whole_of(word):
    """The integer that this is as Python writes it, at most maxint either way, or None."""
    figures = word[1:] if word.startswith("-") else word
    if len(figures) > 10 or not figures.isascii() or not figures.isdigit():
        return None
    number = int(word)
    return number if str(number) == word and -MAXINT <= number <= MAXINT else None


def number_within(word, form):
    """The integer that this is, if it is within the bounds of this form, or None."""
    number = whole_of(word)
    low, high = BOUNDS[form]
    return None if number is None or not low <= number <= high else number


def numbers_within(words, form):
    """The list of integers that all these are, None if one is not within the bounds."""
    numbers = [number_within(word, form) for word in words]
    return None if None in numbers else numbers


def is_ascending(numbers):
    return all([one < other for one, other in zip(numbers, numbers[1:])])


def members_read(words):
    numbers = numbers_within(words, "member")
    return None if numbers is None or not is_ascending(numbers) else (tuple(numbers),)


def signs_read(words):
    numbers = numbers_within(words, "sign")
    return None if numbers is None else (tuple(numbers),)


def ends_read(words):
    numbers = numbers_within(words, "whole")
    return None if numbers is None or numbers[0] > numbers[1] else tuple(numbers)


def arms_read(words):
    """M, and the pairs of V and K, ascending by V."""
    arms = numbers_within(words[:1] + words[2::2], "from 0")
    values = numbers_within(words[1::2], "whole")
    if arms is None or values is None or len(arms) != len(values) + 1 or not is_ascending(values):
        return None
    return arms[0], tuple(list(zip(values, arms[1:])))


def labels_read(words):
    """LO, and the labels, None for -."""
    low = whole_of(words[0])
    labels = [None if word == NO_LABEL else number_within(word, "label") for word in words[1:]]
    is_wrong = [word for word, label in zip(words[1:], labels) if label is None and word != NO_LABEL]
    return None if low is None or is_wrong else (low, tuple(labels))


LONG_READERS = {
    "members": members_read, "signs": signs_read, "arms": arms_read, "ends": ends_read, "labels": labels_read,
}


def order_read(words):
    """The order and what stands behind it, read as numbers and names; None if the form is wrong."""
    form = FORMS.get(words[0])
    if form is None:
        return None
    if not form:
        return (words[0],) if len(words) == 1 else None
    given = words[1:]
    if len(form) == 1 and form[0] in LENGTHS:
        low, high = LENGTHS[form[0]]
        reader = LONG_READERS[form[0]]
        told = reader(given) if low <= len(given) <= high else None
        return None if told is None else (words[0], *told)
    if len(given) != len(form):
        return None
    told = [word_read(word, part) for word, part in zip(given, form)]
    return None if None in told else (words[0], *told)


def word_read(word, form):
    """A single word behind an order, read by its form; None if it is wrong."""
    if form in BOUNDS:
        return number_within(word, form)
    if form == "comparison":
        return word if word in COMPARISONS else None
    if form == "trap":
        return word if word in TRAP_WORDS else None
    return word


def names_in(order):
    """What an order that was read names: tuples of layout, signature, proc or label, and the name."""
    if order[0] not in NAMING:
        return []
    found = []
    for form, told in zip(FORMS[order[0]], order[1:]):
        if form in ("layout", "signature", "proc"):
            found.append((form, told))
        elif form == "own label":
            found.append(("label", told))
    if order[0] == "table":
        found = [("label", label) for label in order[2] if label is not None]
    return found
