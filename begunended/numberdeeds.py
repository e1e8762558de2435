"""Orders over numbers, truths, signs and sets: each takes from the workspace and leaves there."""

from begunended.errors import Trap
from begunended.signs import sign_of
from begunended.storage import cells_to_read
from begunended.values import MAXINT

HIGHEST_MEMBER = 127
LOWEST_SIGN = 32
HIGHEST_SIGN = 126


def within_maxint(number):
    """This number, unless it is beyond maxint."""
    if -MAXINT <= number <= MAXINT:
        return number
    raise Trap("beyond")


def members_bits(low, high):
    """The bits of all ordinals that a set can hold from low to high."""
    low = max(low, 0)
    high = min(high, HIGHEST_MEMBER)
    return (1 << high - low + 1) - 1 << low if low <= high else 0


def do_look(engine, frame, row):
    if not row[1] <= frame.stack[-1] <= row[2]:
        raise Trap("stretch")


def do_within(engine, frame, row):
    if frame.stack[-1] & members_bits(row[1], row[2]) != frame.stack[-1]:
        raise Trap("stretch")


def do_add(engine, frame, row):
    number = within_maxint(frame.stack[-2] + frame.stack[-1])
    frame.stack[-2:] = [number]


def do_sub(engine, frame, row):
    number = within_maxint(frame.stack[-2] - frame.stack[-1])
    frame.stack[-2:] = [number]


def do_mul(engine, frame, row):
    number = within_maxint(frame.stack[-2] * frame.stack[-1])
    frame.stack[-2:] = [number]


def do_div(engine, frame, row):
    one, other = frame.stack[-2:]
    if other == 0:
        raise Trap("nought")
    number = abs(one) // abs(other)
    frame.stack[-2:] = [number if (one < 0) == (other < 0) else -number]


def do_mod(engine, frame, row):
    one, other = frame.stack[-2:]
    if other < 1:
        raise Trap("below")
    frame.stack[-2:] = [one - other * (one // other)]


def do_neg(engine, frame, row):
    frame.stack[-1] = -frame.stack[-1]


def do_abs(engine, frame, row):
    frame.stack[-1] = abs(frame.stack[-1])


def do_sqr(engine, frame, row):
    frame.stack[-1] = within_maxint(frame.stack[-1] * frame.stack[-1])


def do_odd(engine, frame, row):
    frame.stack[-1] = frame.stack[-1] & 1 == 1


def do_ordt(engine, frame, row):
    frame.stack[-1] = int(frame.stack[-1])


def do_ordc(engine, frame, row):
    frame.stack[-1] = ord(frame.stack[-1])


def do_chr(engine, frame, row):
    if not LOWEST_SIGN <= frame.stack[-1] <= HIGHEST_SIGN:
        raise Trap("stretch")
    frame.stack[-1] = sign_of(frame.stack[-1])


def do_tru(engine, frame, row):
    if not 0 <= frame.stack[-1] <= 1:
        raise Trap("stretch")
    frame.stack[-1] = frame.stack[-1] == 1


def do_and(engine, frame, row):
    one, other = frame.stack[-2:]
    frame.stack[-2:] = [one and other]


def do_or(engine, frame, row):
    one, other = frame.stack[-2:]
    frame.stack[-2:] = [one or other]


def do_not(engine, frame, row):
    frame.stack[-1] = not frame.stack[-1]


def do_eq(engine, frame, row):
    one, other = frame.stack[-2:]
    frame.stack[-2:] = [one == other]


def do_ne(engine, frame, row):
    one, other = frame.stack[-2:]
    frame.stack[-2:] = [one != other]


def do_lt(engine, frame, row):
    one, other = frame.stack[-2:]
    frame.stack[-2:] = [one < other]


def do_le(engine, frame, row):
    one, other = frame.stack[-2:]
    frame.stack[-2:] = [one <= other]


def do_gt(engine, frame, row):
    one, other = frame.stack[-2:]
    frame.stack[-2:] = [one > other]


def do_ge(engine, frame, row):
    one, other = frame.stack[-2:]
    frame.stack[-2:] = [one >= other]


def do_inside(engine, frame, row):
    one, other = frame.stack[-2:]
    frame.stack[-2:] = [one & other == one]


def do_around(engine, frame, row):
    one, other = frame.stack[-2:]
    frame.stack[-2:] = [one & other == other]


def want_member(number):
    if not 0 <= number <= HIGHEST_MEMBER:
        raise Trap("member")


def do_one(engine, frame, row):
    want_member(frame.stack[-1])
    frame.stack[-1] = members_bits(frame.stack[-1], frame.stack[-1])


def do_span(engine, frame, row):
    one, other = frame.stack[-2:]
    want_member(one)
    want_member(other)
    frame.stack[-2:] = [members_bits(one, other)]


def do_join(engine, frame, row):
    one, other = frame.stack[-2:]
    frame.stack[-2:] = [one | other]


def do_meet(engine, frame, row):
    one, other = frame.stack[-2:]
    frame.stack[-2:] = [one & other]


def do_less(engine, frame, row):
    one, other = frame.stack[-2:]
    frame.stack[-2:] = [one ^ one & other]


def do_in(engine, frame, row):
    one, other = frame.stack[-2:]
    frame.stack[-2:] = [0 <= one <= HIGHEST_MEMBER and other >> one & 1 == 1]


def do_text(engine, frame, row):
    """Compares strings sign by sign, up to the first unlike pair."""
    one, other = frame.stack[-2:]
    left, right = cells_to_read(one), cells_to_read(other)
    outcome = 0
    for at in range(one[2].many):
        signs = left[one[1] + at], right[other[1] + at]
        if signs[0] is None or signs[1] is None:
            raise Trap("unset")
        if signs[0] != signs[1]:
            outcome = -1 if signs[0] < signs[1] else 1
            break
    frame.stack[-2:] = [is_outcome(row[1], outcome)]


def is_outcome(word, outcome):
    """Whether a comparison holds of what stands so to another thing: below it -1, above it 1."""
    if word == "eq":
        return outcome == 0
    if word == "ne":
        return outcome != 0
    if word == "lt":
        return outcome < 0
    if word == "le":
        return outcome <= 0
    return outcome > 0 if word == "gt" else outcome >= 0


NUMBER_DEEDS = {
    "look": do_look, "within": do_within, "add": do_add, "sub": do_sub, "mul": do_mul, "div": do_div, "mod": do_mod,
    "neg": do_neg, "abs": do_abs, "sqr": do_sqr, "odd": do_odd, "ordt": do_ordt, "ordc": do_ordc, "chr": do_chr,
    "tru": do_tru, "and": do_and, "or": do_or, "not": do_not, "eq": do_eq, "ne": do_ne, "lt": do_lt, "le": do_le,
    "gt": do_gt, "ge": do_ge, "same": do_eq, "unlike": do_ne, "seq": do_eq, "sne": do_ne, "inside": do_inside,
    "around": do_around, "one": do_one, "span": do_span, "join": do_join, "meet": do_meet, "less": do_less,
    "in": do_in, "text": do_text,
}
