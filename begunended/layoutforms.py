"""Layouts of cells, read off their text."""

from begunended.tokens import is_figure, is_letter

MOST_CELLS = 2000
MOST_PIECES = 12
MOST_ARMS = 8
LONGEST_NAME = 8
# No layout that is nested deeper is read; callers stay far below.
DEEPEST = 100
CELL_SORTS = ("n", "t", "c", "s")


class Layout:
    """A layout: cell, array, record, arms, nothing (the arm without pieces) or file.

    Size is how many places its cells take where they lie, with one more for each arms, which tells
    the living arm; offsets are where the pieces of a record begin, aims the names that pointers have.
    """

    def __init__(self, form, text, parts):
        self.form = form
        self.text = text
        self.parts = parts
        self.many = 1
        self.cells = 1
        self.size = 1
        self.offsets = []
        self.aims = [name for part in parts for name in part.aims]


def is_cell(layout):
    """Whether this is n, t, c, s or a pointer."""
    return layout.form == "cell"


def is_unit_name(word):
    """Whether this is one to eight small letters and figures, a letter first."""
    return len(word) <= LONGEST_NAME and is_word(word)


def is_word(word):
    """Whether these are small letters and figures, a letter first."""
    if word == "" or word != word.lower() or not is_letter(word[0]):
        return False
    return all([is_letter(sign) or is_figure(sign) for sign in word])


def is_layout(layout):
    """Whether what was read is a layout by itself: arms and nothing are not."""
    return layout is not None and layout.form not in ("arms", "nothing") and 1 <= layout.cells <= MOST_CELLS


def layout_read(text):
    """The layout, or the arms, that this text is; None if it is neither."""
    if not text.startswith("<"):
        return whole_of(text, 0)
    if text == "<text>":
        return Layout("file", text, [])
    member = whole_of(text[1:-1], 1)
    if not is_layout(member) or not text.endswith(">"):
        return None
    return Layout("file", text, [member])


def whole_of(text, deep):
    """The layout or arms that all of this text is, None if it is none."""
    layout, end = layout_at(text, 0, deep)
    if layout is None or end != len(text) or layout.cells > MOST_CELLS:
        return None
    return layout


def layout_at(text, at, deep):
    """What is read of the text from here on, None if nothing can be, and where it ends."""
    sign = text[at:at + 1]
    if deep > DEEPEST or sign == "":
        return None, at
    if sign in CELL_SORTS:
        return Layout("cell", sign, []), at + 1
    if sign == "^":
        return pointer_at(text, at)
    if sign == "(":
        return record_at(text, at, deep)
    if sign == "{":
        return arms_at(text, at, deep)
    return array_at(text, at, deep)


def pointer_at(text, at):
    end = at + 1
    while end < len(text) and is_word("a" + text[end]):
        end += 1
    if not is_unit_name(text[at + 1:end]):
        return None, at
    layout = Layout("cell", text[at:end], [])
    layout.aims = [text[at + 1:end]]
    return layout, end


def array_at(text, at, deep):
    end = at
    while end < len(text) and is_figure(text[end]):
        end += 1
    many = text[at:end]
    if not is_count(many) or text[end:end + 1] != "*":
        return None, at
    member, end = layout_at(text, end + 1, deep + 1)
    if not is_layout(member):
        return None, at
    layout = Layout("array", text[at:end], [member])
    layout.many = int(many)
    layout.cells = layout.many * member.cells
    layout.size = layout.many * member.size
    return layout, end


def is_count(figures):
    """Whether this is a number from 1 to 2000 as Python writes it."""
    return figures != "" and len(figures) <= 4 and not figures.startswith("0") and int(figures) <= MOST_CELLS


def record_at(text, at, deep):
    """A record, or nothing."""
    if text[at:at + 2] == "()":
        layout = Layout("nothing", "()", [])
        layout.cells = 0
        layout.size = 0
        return layout, at + 2
    pieces, end = parts_at(text, at, ",)", deep)
    if not pieces or len(pieces) > MOST_PIECES:
        return None, at
    if not all([is_layout(piece) for piece in pieces[:-1]]):
        return None, at
    if pieces[-1].form != "arms" and not is_layout(pieces[-1]):
        return None, at
    layout = Layout("record", text[at:end], pieces)
    layout.cells = sum([piece.cells for piece in pieces])
    layout.size = 0
    for piece in pieces:
        layout.offsets.append(layout.size)
        layout.size += piece.size
    return layout, end


def arms_at(text, at, deep):
    arms, end = parts_at(text, at, "|}", deep)
    if not arms or len(arms) > MOST_ARMS:
        return None, at
    if not all([arm.form == "nothing" or arm.form == "record" and is_layout(arm) for arm in arms]):
        return None, at
    layout = Layout("arms", text[at:end], arms)
    layout.cells = max([arm.cells for arm in arms])
    layout.size = 1 + max([arm.size for arm in arms])
    return layout, end


def parts_at(text, at, signs, deep):
    """The parts of a record or of arms, none if one is wrong; signs part them, and close them."""
    parts = []
    while True:
        part, at = layout_at(text, at + 1, deep + 1)
        sign = text[at:at + 1]
        if part is None or sign == "" or sign not in signs:
            return [], at
        parts.append(part)
        if sign == signs[1]:
            return parts, at + 1


class LayoutTable:
    """Layouts that were read, by their texts, so that none is read twice."""

    def __init__(self):
        self.known = {}

    def of(self, text):
        """The layout or arms that this text is, None if it is neither."""
        if text not in self.known:
            self.known[text] = layout_read(text)
        return self.known[text]
