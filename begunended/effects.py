"""What orders take from a workspace and leave there, by sorts.

A shape is a tuple of sorts: n, t, c, s, ^NAME, @NAME for what is handed, a[L] for a place of L. Each
function of the table below takes an order and the things that it takes, and tells the tuple of what
it leaves, or None if it cannot take these.
"""

from begunended.layoutforms import is_cell

TEXT = "a[<text>]"
LONGEST_WRITTEN = 255
# What orders take and leave that always take and leave the same.
FIXED = {
    "num": ((), ("n",)), "truth": ((), ("t",)), "sign": ((), ("c",)), "set": ((), ("s",)),
    "look": (("n",), ("n",)), "within": (("s",), ("s",)), "add": (("n", "n"), ("n",)), "sub": (("n", "n"), ("n",)),
    "mul": (("n", "n"), ("n",)), "div": (("n", "n"), ("n",)), "mod": (("n", "n"), ("n",)), "neg": (("n",), ("n",)),
    "abs": (("n",), ("n",)), "sqr": (("n",), ("n",)), "odd": (("n",), ("t",)), "ordt": (("t",), ("n",)),
    "ordc": (("c",), ("n",)), "chr": (("n",), ("c",)), "tru": (("n",), ("t",)), "and": (("t", "t"), ("t",)),
    "or": (("t", "t"), ("t",)), "not": (("t",), ("t",)), "seq": (("s", "s"), ("t",)), "sne": (("s", "s"), ("t",)),
    "inside": (("s", "s"), ("t",)), "around": (("s", "s"), ("t",)), "one": (("n",), ("s",)),
    "span": (("n", "n"), ("s",)), "join": (("s", "s"), ("s",)), "meet": (("s", "s"), ("s",)),
    "less": (("s", "s"), ("s",)), "in": (("n", "s"), ("t",)), "jump": ((), ()), "unless": (("t",), ()),
    "table": (("n",), ()), "leave": ((), ()), "far": ((), ()), "trap": ((), ()), "label": ((), ()),
    "line": ((), ()),
    "eoln": (("a[<text>]",), ("t",)), "readn": (("a[<text>]",), ("n",)), "readc": (("a[<text>]",), ("c",)),
    "readln": (("a[<text>]",), ()),
    "writeln": (("a[<text>]",), ()), "writen": (("a[<text>]", "n", "n"), ()), "writet": (("a[<text>]", "t", "n"), ()),
    "writec": (("a[<text>]", "c", "n"), ()),
}
# How many things other orders take, those aside that hang on what a unit tells.
COUNTS = {
    "nil": 0, "string": 0, "bind": 1, "field": 1, "arm": 1, "become": 1, "lives": 2, "index": 2, "aim": 1, "window": 1,
    "load": 1, "store": 2, "move": 2, "unset": 1, "drop": 1, "dup": 1, "eq": 2, "ne": 2, "lt": 2, "le": 2, "gt": 2,
    "ge": 2, "same": 2, "unlike": 2, "text": 2, "new": 1, "gone": 1, "reset": 1, "rewrite": 1, "get": 1, "put": 1,
    "eof": 1, "writes": 3,
}
# How many things these leave, if any.
LEFT_COUNTS = {
    "nil": 1, "string": 1, "field": 1, "arm": 1, "index": 1, "aim": 1, "window": 1, "load": 1, "dup": 2, "eq": 1,
    "ne": 1, "lt": 1, "le": 1, "gt": 1, "ge": 1, "same": 1, "unlike": 1, "text": 1, "eof": 1,
}


def place_of(text):
    """The sort of a place of this layout."""
    return "a[" + text + "]"


class Sorts:
    """What the sorts of a unit are: its layouts by name, and the table of all layouts; known are those of sorts."""

    def __init__(self, unit):
        self.layout_texts = unit.layout_texts
        self.table = unit.table
        self.known = {}

    def layout(self, sort):
        """The layout of a place, None for what is none."""
        if sort not in self.known:
            is_place = sort.startswith("a[") and sort.endswith("]")
            self.known[sort] = self.table.of(sort[2:-1]) if is_place else None
        return self.known[sort]

    def is_form(self, sort, form):
        """Whether this is a place of a layout of this form."""
        layout = self.layout(sort)
        return layout is not None and layout.form == form


def leave_nil(sorts, order, given):
    return ("^" + order[1],)


def leave_string(sorts, order, given):
    return (place_of(str(len(order[1])) + "*c"),)


def leave_field(sorts, order, given):
    if not sorts.is_form(given[0], "record"):
        return None
    parts = sorts.layout(given[0]).parts
    return (place_of(parts[order[1]].text),) if order[1] < len(parts) else None


def leave_arm(sorts, order, given):
    if not sorts.is_form(given[0], "arms"):
        return None
    parts = sorts.layout(given[0]).parts
    if order[1] >= len(parts) or parts[order[1]].form == "nothing":
        return None
    return (place_of(parts[order[1]].text),)


def leave_become(sorts, order, given):
    if not sorts.is_form(given[0], "arms") or order[1] >= len(sorts.layout(given[0]).parts):
        return None
    return ()


def leave_lives(sorts, order, given):
    if not sorts.is_form(given[0], "record") or given[1] != "n":
        return None
    last = sorts.layout(given[0]).parts[-1]
    if last.form != "arms" or max([order[1]] + [arm for _, arm in order[2]]) >= len(last.parts):
        return None
    return ()


def leave_index(sorts, order, given):
    if not sorts.is_form(given[0], "array") or given[1] != "n":
        return None
    layout = sorts.layout(given[0])
    return (place_of(layout.parts[0].text),) if order[2] - order[1] + 1 == layout.many else None


def leave_aim(sorts, order, given):
    return (place_of(sorts.layout_texts[given[0][1:]]),) if given[0].startswith("^") else None


def leave_window(sorts, order, given):
    if not sorts.is_form(given[0], "file"):
        return None
    parts = sorts.layout(given[0]).parts
    return (place_of(parts[0].text if parts else "c"),)


def leave_load(sorts, order, given):
    layout = sorts.layout(given[0])
    return (layout.text,) if layout is not None and is_cell(layout) else None


def leave_store(sorts, order, given):
    return () if leave_load(sorts, order, given) == given[1:] else None


def leave_move(sorts, order, given):
    return leave_unset(sorts, order, given) if given[0] == given[1] else None


def leave_unset(sorts, order, given):
    return None if sorts.layout(given[0]) is None or sorts.is_form(given[0], "file") else ()


def leave_drop(sorts, order, given):
    return ()


def leave_dup(sorts, order, given):
    return None if given[0].startswith("@") else (given[0], given[0])


def leave_compared(sorts, order, given):
    return ("t",) if given[0] == given[1] and given[0] in ("n", "t", "c") else None


def leave_same(sorts, order, given):
    return ("t",) if given[0] == given[1] and given[0].startswith("^") else None


def is_signs_place(sorts, sort):
    """Whether this is a[N*c]."""
    return sorts.is_form(sort, "array") and sorts.layout(sort).parts[0].text == "c"


def leave_text(sorts, order, given):
    return ("t",) if given[0] == given[1] and is_signs_place(sorts, given[0]) else None


def leave_new(sorts, order, given):
    return () if given[0].startswith("a[^") else None


def leave_gone(sorts, order, given):
    return () if given[0].startswith("^") else None


def leave_file(sorts, order, given):
    return () if sorts.is_form(given[0], "file") else None


def leave_eof(sorts, order, given):
    return ("t",) if sorts.is_form(given[0], "file") else None


def leave_writes(sorts, order, given):
    if given[0] != TEXT or given[2] != "n" or not is_signs_place(sorts, given[1]):
        return None
    return () if sorts.layout(given[1]).many <= LONGEST_WRITTEN else None


EFFECTS = {
    "nil": leave_nil, "string": leave_string, "field": leave_field, "arm": leave_arm, "become": leave_become,
    "lives": leave_lives, "index": leave_index, "aim": leave_aim, "window": leave_window, "load": leave_load,
    "store": leave_store, "move": leave_move, "unset": leave_unset, "drop": leave_drop, "dup": leave_dup,
    "eq": leave_compared, "ne": leave_compared, "lt": leave_compared, "le": leave_compared, "gt": leave_compared,
    "ge": leave_compared, "same": leave_same, "unlike": leave_same, "text": leave_text, "new": leave_new,
    "gone": leave_gone, "reset": leave_file, "rewrite": leave_file, "get": leave_file, "put": leave_file,
    "eof": leave_eof, "writes": leave_writes,
}
