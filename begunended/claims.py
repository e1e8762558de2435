"""Claims: the names and the ends over which they are told."""

from begunended.checking import walks_let
from begunended.stretches import Ends
from begunended.tracing import privacy_of
from begunended.values import MAXINT

FIRST_ENDS = (-2147483647, 2147483647, 0, 1, 32, 126)
TELLING = {"num": True, "sign": True, "look": True, "index": True, "table": True}


def private(unit, proc):
    """The numbers of the private names of a proc."""
    walks_let(unit)
    unit.proc_of(proc)
    return privacy_of(unit).names[proc]


def ends_of(unit):
    """The ends that stretches may have."""
    walks_let(unit)
    return tuple(ends_told(unit).rows)


def ends_told(unit):
    """The ends of a unit that is let."""
    if unit.ends is None:
        unit.ends = Ends(ends_found(unit))
    return unit.ends


def ends_found(unit):
    """The ascending list of the ends, found anew."""
    found = {}
    told = list(FIRST_ENDS)
    for proc in unit.proc_table.values():
        for order in proc.orders:
            if order[0] in TELLING:
                told.extend(numbers_told(order))
    for number in told:
        for end in (number - 1, number, number + 1):
            if -MAXINT <= end <= MAXINT:
                found[end] = True
    return sorted(list(found))


def numbers_told(order):
    """The numbers of an order that are ends."""
    if order[0] == "num" or order[0] == "sign":
        return [order[1]]
    if order[0] == "table":
        return [order[1], order[1] + len(order[2]) - 1]
    return [order[1], order[2]]
