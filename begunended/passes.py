"""Passes: units that do the same, and what stays of a unit's rows in them."""

from begunended.bettering import PASSES, Bettering
from begunended.checking import walks_let
from begunended.errors import BadPasses
from begunended.seams import Seam
from begunended.tracing import privacy_of

MOST_PASSES = 12


def bettered(unit, passes):
    """The unit that comes of a unit by passes."""
    return all_done(unit, passes).made_unit()


def kept(unit, passes):
    """The rows of a unit that stay, each with the row that it is in what comes."""
    done = all_done(unit, passes)
    found = []
    for name, rows in done.codes.items():
        for at, row in enumerate(rows):
            if row.origin is not None:
                found.append((name, row.origin, at))
    return tuple(found)


def made_seam(unit, passes):
    """The seam of a unit and of what comes of it by passes."""
    done = all_done(unit, passes)
    other = done.made_unit()
    left, right = walks_let(unit), walks_let(other)
    names = privacy_of(unit).names, privacy_of(other).names
    rows = []
    for name in unit.procs:
        lost = [number for number in names[0][name] if number in names[1][name] and (name, number) in done.unread_names]
        lost_rows = [f"lost {number}" for number in lost]
        rows.extend(["proc " + name, "match 0 0", *lost_rows])
        for at, row in enumerate(done.codes[name]):
            if at > 0 and is_matched(done, name, at) and row.origin in left[name].shapes and at in right[name].shapes:
                works = [f"work w{number}" for number in range(len(right[name].shapes[at]))]
                rows.extend([f"match {row.origin} {at}", *works, *lost_rows])
    return Seam("\n".join(rows))


def all_done(unit, passes):
    """What passes make of a unit: BadPasses."""
    walks_let(unit)
    if not isinstance(passes, tuple) or len(passes) > MOST_PASSES:
        raise BadPasses(passes)
    if not all([isinstance(word, str) and word in PASSES for word in passes]):
        raise BadPasses(passes)
    done = Bettering(unit)
    for word in passes:
        done.do_pass(word)
    return done


def is_matched(done, name, at):
    """Whether a row of what comes is one that stayed, and that a seam may match."""
    row = done.codes[name][at]
    if row.origin is None or row.order[0] in ("label", "line"):
        return False
    if row.order[0] != "jump" or (name, row.origin) not in done.led_over:
        return True
    return leads_to_itself(done.codes[name], at)


def leads_to_itself(rows, at):
    """Whether a row jump leads to itself, labels and lines aside."""
    label = rows[at].order[1]
    behind = [number for number, row in enumerate(rows) if row.order == ("label", label)][0]
    while rows[behind].order[0] in ("label", "line"):
        behind += 1
    return behind == at
