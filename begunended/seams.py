"""Seams: which rows of two units go together, and what the right one holds there, by the left one's."""

from begunended.errors import BadSeam, BadValue
from begunended.seamreading import DEEPEST, SeamReader, replaced, term_depth, term_text


class Seam:
    """A seam: its text, the tuple of its matches.

    Procs are the matches by proc, as they were read, begin_rows the rows of the text with which procs begin.
    """

    def __init__(self, text):
        if not isinstance(text, str):
            raise BadSeam(0)
        reader = SeamReader(text)
        reader.read()
        self.text = text
        self.procs = reader.procs
        self.begin_rows = reader.begin_rows
        self.matches = tuple([(name, match.left, match.right) for name in self.procs for match in self.procs[name]])

    def __eq__(self, other):
        return isinstance(other, Seam) and self.text == other.text


def joined_seam(one, other):
    """The seam of a first and a last unit, by two seams that lead through one between."""
    if not isinstance(one, Seam):
        raise BadValue(one)
    if not isinstance(other, Seam) or list(one.procs) != list(other.procs):
        raise BadValue(other)
    rows = []
    for name in one.procs:
        rows.append("proc " + name)
        for ends, pair in sorted(list(least_pairs(one.procs[name], other.procs[name]).items())):
            rows.extend(match_rows(ends, pair[0], pair[1]))
    return Seam("\n".join(rows))


def least_pairs(firsts, seconds):
    """The dict of ends (left, right) and the two matches that lead there by the least row between."""
    found = {}
    for first in firsts:
        for second in seconds:
            ends = (first.left, second.right)
            if first.right == second.left and (ends not in found or first.right < found[ends][0].right):
                found[ends] = (first, second)
    return found


def match_rows(ends, first, second):
    """The rows of a match that two ones make; none if a thing of it would hold what is lost."""
    rows = [f"match {ends[0]} {ends[1]}"]
    for term in second.works:
        told = replaced(term, first.names, first.works)
        if told is None:
            return left_out(ends)
        rows.append("work " + text_wanted(told))
    for name in sorted([*first.names, *[name for name in second.names if name not in first.names]]):
        term = second.names.get(name, ("n", (), (name,)))
        told = None if term is None else replaced(term, first.names, first.works)
        if told is None:
            rows.append(f"lost {name}")
        elif told != ("n", (), (name,)):
            rows.append(f"name {name} " + text_wanted(told))
    return rows


def left_out(ends):
    """No rows: a seam cannot do without its first match."""
    if ends == (0, 0):
        raise BadSeam(0)
    return []


def text_wanted(term):
    """A term as it is written, unless it is nested too deep."""
    if term_depth(term) > DEEPEST:
        raise BadSeam(0)
    return term_text(term)
