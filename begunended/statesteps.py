"""What orders make of states: those that take and leave cells, and go on to the next row."""

from begunended.numberdeeds import HIGHEST_SIGN, LOWEST_SIGN
from begunended.states import NothingLeft
from begunended.stretches import CONTRARY, FULL, TURNED, common, compared, cut, difference, product, quotient, rest
from begunended.stretches import sum_of, without_signs
from begunended.values import MAXINT


def do_nothing(moving, order):
    """Rows label and line leave a state as it is."""


def leave_place(moving, order):
    """Leaves a place: it is no cell n, t, c."""
    moving.cells.append(None)


def do_drop(moving, order):
    moving.take()


def leave_told(moving, order):
    moving.leave((order[1], order[1]), None, ())


def do_dup(moving, order):
    moving.cells.append(moving.cells[-1])


def do_look(moving, order):
    moving.meet_upper(order[1], order[2])


def do_chr(moving, order):
    moving.meet_upper(LOWEST_SIGN, HIGHEST_SIGN)


def do_tru(moving, order):
    moving.meet_upper(0, 1)


def do_ordinal(moving, order):
    moving.meet_upper(-MAXINT, MAXINT)


def do_index(moving, order):
    moving.meet_upper(order[1], order[2])
    moving.take()


def both_taken(moving):
    """The lower and the upper one of two cells."""
    upper = moving.take()
    return moving.take(), upper


def stem_behind(lower, upper, sign):
    """The stem of a sum, or of a difference, with one number."""
    if lower[2] is None or upper[0] != upper[1]:
        return None
    return lower[2][0], lower[2][1] + sign * upper[0]


def do_add(moving, order):
    lower, upper = both_taken(moving)
    moving.leave(cut(sum_of(lower[:2], upper[:2])), stem_behind(lower, upper, 1), ())


def do_sub(moving, order):
    lower, upper = both_taken(moving)
    moving.leave(cut(difference(lower[:2], upper[:2])), stem_behind(lower, upper, -1), ())


def do_mul(moving, order):
    lower, upper = both_taken(moving)
    moving.leave(cut(product(lower[:2], upper[:2])), None, ())


def do_div(moving, order):
    lower, upper = both_taken(moving)
    moving.leave(quotient(lower[:2], upper[:2]), None, ())


def do_mod(moving, order):
    lower, upper = both_taken(moving)
    moving.leave(rest(lower[:2], upper[:2]), None, ())


def do_neg(moving, order):
    low, high, _, _ = moving.take()
    moving.leave((-high, -low), None, ())


def do_abs(moving, order):
    moving.leave(without_signs(moving.take()[:2]), None, ())


def do_sqr(moving, order):
    low, high = without_signs(moving.take()[:2])
    moving.leave(cut((low * low, high * high)), None, ())


def do_odd(moving, order):
    low, high, _, _ = moving.take()
    moving.leave((low & 1, low & 1) if low == high else FULL["t"], None, ())


def do_compare(moving, order):
    lower, upper = both_taken(moving)
    moving.leave(compared(order[0], lower[:2], upper[:2]), None, tests_of(order[0], lower, upper))


def tests_of(word, lower, upper):
    """What a comparison tells of the stems of what it takes."""
    tests = []
    if lower[2] is not None:
        tests.append((*lower[2], word, *upper[:2]))
    if upper[2] is not None:
        tests.append((*upper[2], TURNED[word], *lower[:2]))
    if len(tests) == 2 and tests[0][:3] == tests[1][:3]:
        both = common(tests[0][3:], tests[1][3:])
        if both is None:
            raise NothingLeft("one name holds two numbers")
        return ((*tests[0][:3], *both),)
    return tuple(sorted(tests))


def do_not(moving, order):
    low, high, _, tests = moving.take()
    contrary = [(name, more, CONTRARY[word], one, other) for name, more, word, one, other in tests]
    moving.leave((1 - high, 1 - low), None, tuple(sorted(contrary)))


def do_and(moving, order):
    lower, upper = both_taken(moving)
    moving.leave((min(lower[0], upper[0]), min(lower[1], upper[1])), None, ())


def do_or(moving, order):
    lower, upper = both_taken(moving)
    moving.leave((max(lower[0], upper[0]), max(lower[1], upper[1])), None, ())


STATE_STEPS = {
    "label": do_nothing, "line": do_nothing, "place": leave_place, "drop": do_drop,
    "num": leave_told, "truth": leave_told, "sign": leave_told, "dup": do_dup, "look": do_look, "chr": do_chr,
    "tru": do_tru, "ordt": do_ordinal, "ordc": do_ordinal, "index": do_index, "add": do_add, "sub": do_sub,
    "mul": do_mul, "div": do_div, "mod": do_mod, "neg": do_neg, "abs": do_abs, "sqr": do_sqr, "odd": do_odd,
    "eq": do_compare, "ne": do_compare, "lt": do_compare, "le": do_compare, "gt": do_compare, "ge": do_compare,
    "not": do_not, "and": do_and, "or": do_or,
}
