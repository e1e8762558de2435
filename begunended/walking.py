"""Walking: how the rows of a proc are gone by on terms, on either side."""

from begunended.errors import Wide
from begunended.flows import LAST
from begunended.pairs import is_hidden
from begunended.sides import Refused
from begunended.termdeeds import NONE_PUT, TERM_DEEDS, do_value
from begunended.terms import MOST_WAYS

CASE_TRAP = ("trap", "case")


class Walker:
    """A proc of one unit of a pair, whose rows are gone by."""

    def __init__(self, side_unit, name):
        self.flow = side_unit.flow
        self.proc = side_unit.flow.procs[name]
        self.shapes = side_unit.walked[name].shapes

    def is_hidden_place(self, order):
        """Whether a row place tells a hidden name."""
        owner = self.flow.procs[self.proc.around[order[1]]]
        return is_hidden(owner, order[2])

    def private_number(self, side, term):
        """The private name n, t or c whose place a term is, None for others."""
        word, _, told = side.terms.nodes[term]
        return told[1] if word == "place" and told[0] == 0 and told[1] in side.names else None

    def sort_loaded(self, row):
        """The first sign of the sort that a row load leaves."""
        return self.shapes[row][-1][2]

    def heading_called(self, order):
        """What a call takes, but for what was handed, and what it gives."""
        if order[0] == "call":
            proc = self.flow.procs[order[1]]
            return proc.takes, proc.gives
        heading = self.flow.headings[order[1]]
        return heading.takes, heading.gives

    def note_row(self, side, row):
        """Keeps in mind that a way goes by a row: no way goes by one twice."""
        if row in side.gone_by:
            raise Wide(MOST_WAYS)
        side.gone_by[row] = True

    def go_by(self, side, row):
        """Goes by a row behind which the next one, or a label, is: the number of the row that is next."""
        self.note_row(side, row)
        order = self.proc.orders[row]
        if order[0] == "jump":
            return self.proc.labels[order[1]]
        if order[0] == "line":
            side.line = order[1]
        elif order[0] != "label":
            deed = TERM_DEEDS.get(order[0], do_value)
            deed(self, side, order, row)
        return row + 1

    def end(self, side, row):
        """Does a row behind which this proc does not go on: leave, far, trap."""
        self.note_row(side, row)
        order = self.proc.orders[row]
        terms = ()
        if order[0] == "leave" and self.proc.gives != "-" and len(self.proc.takes) in side.names:
            terms = (self.result_told(side, len(self.proc.takes)),)
        side.deed(order, terms)

    def result_told(self, side, number):
        """What a private result is, told by what it holds if it is not surely set."""
        known = side.known
        holding = side.held.resolved(number, known, side.initial)
        if holding[0] == "lost":
            raise Refused("lost")
        if holding[0] == "val":
            return holding[1]
        if holding[0] == NONE_PUT:
            return side.terms.term("unset", (), (), "p")
        return side.terms.term("held", (), (holding[1],), "p")

    def part(self, side, row):
        """Takes the upper thing at a row that parts ways: its term."""
        self.note_row(side, row)
        return side.take()

    def is_last(self, row):
        return self.proc.orders[row][0] in LAST

    def row_of_number(self, order, number):
        """The row to which a table leads for a number."""
        return self.proc.labels[order[2][number - order[1]]]

    def ways_of_table(self, side, order, term):
        """The numbers of a table that its term may be and that have labels, and whether it may trap."""
        low, high = side.known.span(term)
        numbers = []
        for at, label in enumerate(order[2]):
            if label is not None and low <= order[1] + at <= high:
                numbers.append(order[1] + at)
        return numbers, len(numbers) < high - low + 1


def gone_truth(known, terms, tests, term):
    """How a truth was gone by on a way, None if neither it nor its not was; tests are pairs of a term and how."""
    for other, told in tests:
        if isinstance(told, bool):
            if known.are_same((other,), (term,)):
                return told
            if known.are_same((terms.negated(other),), (term,)):
                return not told
    return None


def gone_number(known, tests, term):
    """How a number was gone by: (True, it), (False, the numbers that it was none of), None if it was not."""
    for other, told in tests:
        if isinstance(told, tuple) and known.are_same((other,), (term,)):
            return told
    return None


def numbers_left(numbers, may_trap, told):
    """Which of the numbers of a table a term may be, and whether it may trap, by how it was gone by ahead."""
    if told is None:
        return numbers, may_trap
    if told[0]:
        return [number for number in numbers if number == told[1]], told[1] not in numbers
    return [number for number in numbers if number not in told[1]], may_trap
