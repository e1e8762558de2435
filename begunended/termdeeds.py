"""Orders done on terms: those that find places, look at them, put into them, and those of files and calls.

Each function takes the walker that knows the proc, the side that goes on, the order and its row.
"""

from begunended.effects import FIXED
from begunended.numberdeeds import HIGHEST_MEMBER
from begunended.sides import Refused
from begunended.stretches import FULL, common, difference, product, sum_of

MAY_TRAP = ("look", "within", "add", "sub", "mul", "div", "mod", "neg", "abs", "sqr", "chr", "tru", "one", "span")


def is_barred(side, order, parts):
    """Whether an order over values surely does not trap."""
    word = order[0]
    if word == "within":
        return is_within_barred(side, order, parts[0])
    if word in ("add", "sub", "mul", "sqr"):
        return is_sum_barred(side, order, parts)
    low, high = side.known.span(parts[-1])
    if word == "div":
        return low > 0 or high < 0
    if word == "mod":
        return low > 0
    if word == "neg" or word == "abs":
        return True
    least, most = bounds_of(order)
    return least <= low and high <= most and (word != "span" or is_member(side, parts[0]))


def bounds_of(order):
    """From where to where what an order takes does not make it trap."""
    if order[0] == "look":
        return order[1], order[2]
    if order[0] == "chr":
        return FULL["c"]
    return (0, 1) if order[0] == "tru" else (0, HIGHEST_MEMBER)


def is_member(side, part):
    low, high = side.known.span(part)
    return 0 <= low and high <= HIGHEST_MEMBER


def is_sum_barred(side, order, parts):
    """Whether what is taken, or the normal form of what comes, stays within maxint."""
    known = side.known
    spans = known.span(parts[0]), known.span(parts[-1])
    if order[0] == "add":
        made = sum_of(*spans)
    else:
        made = difference(*spans) if order[0] == "sub" else product(*spans)
    return is_whole(made) or is_whole(known.unbounded(side.terms.order_term(order, parts)))


def is_whole(stretch):
    """Whether all of a stretch is within maxint."""
    return common(stretch, FULL["n"]) == stretch


def is_within_barred(side, order, part):
    """Whether a set surely is within a stretch."""
    if order[1] <= 0 and HIGHEST_MEMBER <= order[2]:
        return True
    row = side.terms.row_of(side.known.same(part))
    if row is not None:
        return all([order[1] <= number <= order[2] for number in row[1]])
    for known, terms, _ in side.attempted:
        if known[0] == "within" and order[1] <= known[1] and known[2] <= order[2]:
            if side.known.are_same(terms, (part,)):
                return True
    return False


NONE_PUT = "unset"


def leave_told(walker, side, order, row):
    side.leave(side.terms.order_term(order, ()))


def do_string(walker, side, order, row):
    side.stack.append((side.terms.order_term(order, ()), row))


def do_drop(walker, side, order, row):
    side.take()


def do_dup(walker, side, order, row):
    side.stack.append(side.stack[-1])


def do_place(walker, side, order, row):
    """A place: that of a hidden name is what it holds."""
    number = order[2]
    if not walker.is_hidden_place(order):
        side.leave(side.terms.order_term(order, ()))
    elif order[1] == 0 and number in side.names:
        side.leave(held_term(side, number, ("place",), False))
    elif order[1] == 0 and number in side.bound:
        side.leave(side.bound[number])
    else:
        side.attempt(order, (), False, False)
        side.leave(side.terms.order_term(order, ()))


def held_term(side, number, order, is_timed):
    """What a private name holds: an order that traps, perhaps, if it is not surely set."""
    held = side.held
    holding = held.holdings[number]
    if holding[0] == "lost":
        raise Refused("lost")
    if holding[0] == "val":
        return holding[1]
    if holding[0] == NONE_PUT:
        side.event(order, (side.terms.term("unset", (), (), "p"),))
        return side.terms.term("none", (), (side.names[number],), side.names[number])
    is_set = held.set_here[number] or holding[1] in side.known.is_set
    side.attempt(order, (side.terms.term("held", (), (holding[1],), "p"),), is_set, is_timed)
    held.set_here[number] = True
    return side.initial[holding[1]]


def do_bind(walker, side, order, row):
    place = put_place(side)
    if order[1] in side.names:
        side.held.put(order[1], ("val", place))
    else:
        side.deed(order, (place,))
        side.bound[order[1]] = place


def put_place(side):
    """Takes a place that is put into, or kept: no fresh signs."""
    place, fresh = side.stack.pop()
    if fresh is not None:
        raise Refused("event")
    return place


def do_field(walker, side, order, row):
    place, fresh = side.stack.pop()
    side.stack.append((side.terms.order_term(order, (place,)), fresh))


def do_index(walker, side, order, row):
    number = side.take()
    place, fresh = side.stack.pop()
    low, high = side.known.span(number)
    side.attempt(order, (place, number), order[1] <= low and high <= order[2], False)
    side.stack.append((side.terms.order_term(order, (place, number)), fresh))


def do_way(walker, side, order, row):
    """Arm, aim: whether they trap hangs on the time."""
    place, fresh = side.stack.pop()
    side.attempt(order, (place,), False, True)
    side.stack.append((side.terms.order_term(order, (place,)), fresh))


def do_window(walker, side, order, row):
    side.leave(side.terms.order_term(order, side.take_all(1)))


def do_load(walker, side, order, row):
    place = side.take()
    number = walker.private_number(side, place)
    if number is not None:
        side.leave(held_term(side, number, order, True))
        return
    stored = side.stored
    value = side.terms.met(order, (place,), side.time, walker.sort_loaded(row))
    is_stored = stored is not None and side.known.are_same((stored[0],), (place,))
    if side.terms.has_window(place):
        side.deed(order, (place,))
    else:
        side.attempt(order, (place,), is_stored, True)
    side.leave(stored[1] if is_stored else value)


def do_store(walker, side, order, row):
    value = side.take()
    number = walker.private_number(side, side.stack[-1][0])
    place = put_place(side)
    if number is not None:
        side.held.put(number, ("val", value))
    else:
        side.deed(order, (place, value))
        side.stored = (place, value)


def do_unset(walker, side, order, row):
    number = walker.private_number(side, side.stack[-1][0])
    place = put_place(side)
    if number is not None:
        side.held.put(number, (NONE_PUT,))
    else:
        side.deed(order, (place,))


def do_move(walker, side, order, row):
    other = side.take()
    side.deed(order, (put_place(side), other))


def do_lives(walker, side, order, row):
    number = side.take()
    side.deed(order, (put_place(side), number))


def do_putting(walker, side, order, row):
    """Become, new, and the orders of files that leave nothing and take nothing else."""
    side.deed(order, (put_place(side),))


def do_gone(walker, side, order, row):
    side.deed(order, side.take_all(1))


def do_write(walker, side, order, row):
    side.deed(order, side.take_all(3))


def do_read(walker, side, order, row):
    """The orders of files that leave something: it is met."""
    parts = side.take_all(1)
    value = side.terms.met(order, parts, side.time, {"readn": "n", "readc": "c"}.get(order[0], "t"))
    side.deed(order, parts)
    side.leave(value)


def do_text(walker, side, order, row):
    parts = side.take_all(2)
    side.attempt(order, parts, False, True)
    side.leave(side.terms.met(order, parts, side.time, "t"))


def do_call(walker, side, order, row):
    """A call, of what was handed too: it takes no fresh signs as places from outside."""
    takes, gives = walker.heading_called(order)
    things = side.stack[len(side.stack) - len(takes):]
    for param, (_, fresh) in zip(takes, things):
        if param.startswith("&") and fresh is not None:
            raise Refused("event")
    parts = side.take_all(len(takes))
    if order[0] == "callh":
        parts = (side.take(), *parts)
    value = None if gives == "-" else side.terms.met(order, parts, side.time, gives[0])
    side.deed(order, parts)
    if value is not None:
        side.leave(value)


def do_value(walker, side, order, row):
    """Orders over values: they leave what comes of these; look and within leave what they look at."""
    parts = side.take_all(len(FIXED[order[0]][0]) if order[0] in FIXED else 2)
    if order[0] in MAY_TRAP:
        side.attempt(order, parts, is_barred(side, order, parts), False)
    side.leave(parts[0] if order[0] in ("look", "within") else side.terms.order_term(order, parts))


# Orders that do not stand here are those over values.
TERM_DEEDS = {
    "num": leave_told, "truth": leave_told, "sign": leave_told, "set": leave_told, "nil": leave_told,
    "string": do_string, "place": do_place, "handed": leave_told, "bind": do_bind, "field": do_field, "arm": do_way,
    "become": do_putting, "lives": do_lives, "index": do_index, "aim": do_way, "window": do_window, "load": do_load,
    "store": do_store, "move": do_move, "unset": do_unset, "drop": do_drop, "dup": do_dup, "text": do_text,
    "call": do_call, "callh": do_call, "hand": leave_told, "new": do_putting, "gone": do_gone, "reset": do_putting,
    "rewrite": do_putting, "get": do_putting, "put": do_putting, "eof": do_read, "eoln": do_read, "readn": do_read,
    "readc": do_read, "readln": do_putting, "writeln": do_putting, "writen": do_write, "writet": do_write,
    "writec": do_write, "writes": do_write,
}
