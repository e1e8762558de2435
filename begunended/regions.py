"""Regions: what each name of a program means, and other names for what is told."""

from begunended.errors import BadValue, Caught, NoPlace, StageError
from begunended.program import Program
from begunended.tokens import WORDS, is_figure
from begunended.told import telling_at


def names(program):
    """For each use its place, and the place where what it means is told, (0, 0) for required names."""
    facts = program.facts
    found = []
    for token, telling in facts.uses:
        told = (0, 0) if telling.token is None else facts.place(telling.token)
        found.append((*facts.place(token), *told))
    return tuple(sorted(found))


def tellings(program):
    """For each name that is told its place, what it is told as, and its level."""
    facts = program.facts
    return tuple(sorted([(*facts.place(row.token), row.word, row.depth) for row in facts.tellings]))


def routines(program):
    """The routines: the name of each, the level of what it tells, the number of the one around."""
    found = []
    for telling in program.facts.routines:
        outer = None if telling.outside is None else telling.outside.number
        found.append((telling.name, telling.inner.depth, outer))
    return tuple(found)


def jumps(program):
    """For each goto its integer's place, that of its label, and how many blocks it leaves."""
    facts = program.facts
    return tuple(sorted([(*facts.place(row.token), *facts.place(row.label.placed), row.out) for row in facts.gotos]))


def renamed(program, line, column, name):
    """The program in which what is told at this place has another name."""
    telling = telling_at(program.facts, (line, column))
    if telling is None:
        raise NoPlace((line, column))
    if not is_small_name(name):
        raise BadValue(name)
    changed = [token for token, meant in program.facts.uses if meant == telling]
    changed.append(telling.token)
    try:
        other = Program(text_with(program, changed, name))
    except StageError:
        raise Caught((line, column)) from None
    if meanings(other.facts) != meanings(program.facts):
        raise Caught((line, column))
    return other


def is_small_name(name):
    """Whether this is a name in small letters that may stand everywhere."""
    if not isinstance(name, str) or name in WORDS or name == "forward" or name == "":
        return False
    return not is_figure(name[0]) and all(["a" <= sign <= "z" or is_figure(sign) for sign in name])


def text_with(program, changed, name):
    """The text of a program in which this name stands in the place of some tokens."""
    lines = program.text.split("\n")
    rows = [program.facts.rows[token] for token in sorted(changed)]
    for _, told, line, column in reversed(rows):
        old = lines[line - 1]
        lines[line - 1] = old[:column - 1] + name + old[column - 1 + len(told):]
    return "\n".join(lines)


def meanings(facts):
    """The dict of all uses and of what each means, by the numbers of tokens."""
    return {token: telling.token for token, telling in facts.uses}
