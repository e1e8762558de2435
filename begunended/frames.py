"""Frames: what each call of a proc has by itself."""

from begunended.layoutforms import is_cell

class RunProc:
    """A proc as it runs: what it takes, its things, its rows.

    Takes are the words cell, copied, place or handed; things pairs of a layout and whether it is an
    own thing; of a place, or what is handed, the latter is False. Deeds are the functions that do rows;
    orders_ahead are for each row the next one that is an order, and the line gone by on the way.
    """

    def __init__(self, name, depth, takes, things):
        self.name = name
        self.depth = depth
        self.takes = takes
        self.things = things
        self.result = None
        self.rows = []
        self.labels = {}
        self.deeds = []
        self.orders_ahead = []
        self.outside_names = ()


class Frame:
    """A frame: its proc, the frame in which names further out are found, its things and its workspace."""

    def __init__(self, proc, link, things, number):
        self.proc = proc
        self.link = link
        self.things = things
        self.number = number
        self.stack = []
        self.at = 0
        self.line = 0


def frame_out(frame, links):
    """The frame that so many links lead to."""
    for _ in range(links):
        frame = frame.link
    return frame


def run_proc(name, depth, takes, names, table):
    """A proc that takes and names these PARAMs, its rows and labels aside."""
    words = []
    things = []
    for param in takes:
        word, thing = taken(param, table)
        words.append(word)
        things.append(thing)
    for param in names:
        things.append(thing_of(param, table))
    return RunProc(name, depth, words, things)


def taken(param, table):
    """How a PARAM is taken, and the thing that it is."""
    if param.startswith("@"):
        return "handed", (None, False)
    if param.startswith("&"):
        return "place", thing_of(param, table)
    layout, is_own = thing_of(param, table)
    return "cell" if is_cell(layout) else "copied", (layout, is_own)


def thing_of(param, table):
    """The layout of a thing, and whether it is an own one."""
    if param.startswith("&"):
        return table.of(param[1:]), False
    return table.of(param), True
