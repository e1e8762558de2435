"""Set texts: what they hold in worlds, and in which they are apart."""

from begunended.errors import BadSaying, BadSet, BadWorld, Wide
from begunended.setreading import HIGHEST, MOST_NAMES, held_by, is_ordinal, names_of, names_of_saying, ordinals_of
from begunended.setreading import read_saying, read_set, read_world

# The bits of all ordinals from 0 to 127.
ALL = 340282366920938463463374607431768211455


def set_names(text):
    """The names that stand in a set text."""
    return tuple(names_of(steps_wanted(text)))


def worth(text, world):
    """The ordinals that a set text holds in a world."""
    steps = steps_wanted(text)
    return ordinals_of(held_by(steps, sets_wanted(world, names_of(steps)), ALL))


def holds(saying, world):
    """Whether a saying holds in a world."""
    read = read_saying(saying)
    if read is None:
        raise BadSaying(saying)
    return does_hold(read, sets_wanted(world, names_of_saying(read)))


def does_hold(saying, sets):
    """Whether a saying that was read holds where names hold these bits."""
    right = held_by(saying.right, sets, ALL)
    if saying.relation == "in":
        return right >> saying.number & 1 == 1
    left = held_by(saying.left, sets, ALL)
    if saying.relation == "=":
        return left == right
    if saying.relation == "<>":
        return left != right
    if saying.relation == "<=":
        return left & right == left
    return left & right == right


def same_sets(one, other):
    """Whether two set texts hold the same in all worlds; otherwise where they are apart."""
    names, pairs = both_tables(one, other)
    for ordinal, (left, right) in enumerate(pairs):
        for lot in range(1 << len(names)):
            if (left ^ right) >> lot & 1:
                held = [name for at, name in enumerate(names) if lot >> at & 1]
                return "apart", ordinal, tuple(held)
    return ("same",)


def shows_same_sets(one, other, value):
    """Whether a value is what same_sets may tell."""
    names, pairs = both_tables(one, other)
    if not isinstance(value, tuple) or not value or not isinstance(value[0], str):
        return False
    if value[0] == "same":
        return len(value) == 1 and all([left == right for left, right in pairs])
    if value[0] != "apart" or len(value) != 3 or not is_ordinal(value[1]):
        return False
    held = value[2]
    if not isinstance(held, tuple) or not all([isinstance(name, str) and name in names for name in held]):
        return False
    if not all([name < behind for name, behind in zip(held, held[1:])]):
        return False
    left, right = pairs[value[1]]
    lot = sum([1 << at for at, name in enumerate(names) if name in held])
    return (left ^ right) >> lot & 1 == 1


def both_tables(one, other):
    """The names of two set texts, and for each ordinal the pair of the lots of names at which they hold it."""
    both = [steps_wanted(one), steps_wanted(other)]
    names = names_of(both[0] + both[1])
    if len(names) > MOST_NAMES:
        raise Wide(MOST_NAMES)
    return names, list(zip(lots_of(both[0], names), lots_of(both[1], names)))


def lots_of(steps, names):
    """For each ordinal the lots of names, as bits, at which the steps hold it.

    A lot is a number with a bit for each name whose set holds the ordinal.
    """
    most = (1 << (1 << len(names))) - 1
    columns = {}
    for at, name in enumerate(names):
        columns[name] = sum([1 << lot for lot in range(1 << len(names)) if lot >> at & 1])
    found = []
    known = {}
    for ordinal in range(HIGHEST + 1):
        told = [step if is_step(step) else (step >> ordinal & 1) * most for step in steps]
        key = tuple([step for step in told if not is_step(step)])
        if key not in known:
            known[key] = held_by(told, columns, most)
        found.append(known[key])
    return found


def is_step(step):
    """Whether this is a name or a sign, and no told ordinals."""
    return isinstance(step, (str, tuple))


def steps_wanted(text):
    """The steps of a set text: BadSet for what is none."""
    steps = read_set(text)
    if steps is None:
        raise BadSet(text)
    return steps


def sets_wanted(world, names):
    """The bits of the names of a world: BadWorld unless it has all of these names."""
    sets = read_world(world)
    if sets is None or not all([name in sets for name in names]):
        raise BadWorld(world)
    return sets
