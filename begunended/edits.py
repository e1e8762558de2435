"""Edits: programs with other lines, and which routines an edit makes anew."""

from begunended.compiling import head_rows, plan_compiled, proc_rows
from begunended.errors import BadLines, BadText
from begunended.program import Program
from begunended.values import is_integer


def edited(program, first, last, lines):
    """The program in whose text other lines stand in the place of some."""
    own = program.text.split("\n")
    if not is_integer(first) or not is_integer(last) or not 1 <= first <= last + 1 <= len(own) + 1:
        raise BadLines((first, last))
    if not isinstance(lines, tuple) or not all([isinstance(line, str) and "\n" not in line for line in lines]):
        raise BadText(lines)
    return Program("\n".join(own[:first - 1] + list(lines) + own[last:]))


def anew(program, other):
    """The numbers of the routines of another program that have to be compiled anew."""
    plan, twin = plan_compiled(program), plan_compiled(other)
    ahead, told = rows_by_path(plan), rows_by_path(twin)
    has_other_heads = head_rows(program, plan) != head_rows(other, twin)
    paths = list(told)
    return tuple([at for at, path in enumerate(paths) if has_other_heads or ahead.get(path) != told[path]])


def rows_by_path(plan):
    """The dict of the rows of all procs, told by names in the place of numbers, by the names of their routines."""
    paths = [path_of(routine) for routine in plan.facts.routines]
    found = {}
    for code, work in zip(plan.codes.values(), plan.works):
        line = plan.facts.place(code.telling.token)[0]
        found[path_of(code.telling)] = [row_told(row, paths, line) for row in proc_rows(plan, code, work)]
    return found


def path_of(routine):
    """The names of a routine and of those around it, the program's first, as one text."""
    names = []
    while routine is not None:
        names.append(routine.name)
        routine = routine.outside
    return ".".join(list(reversed(names)))


def row_told(row, paths, line):
    """A row with lines counted from the routine's name, and procs told by names."""
    words = row.split(" ")
    if words[0] == "line":
        return ["line", int(words[1]) - line]
    if words[0] in ("proc", "call", "hand"):
        return [words[0]] + [path_told(word, paths) for word in words[1:]]
    return words


def path_told(word, paths):
    """What the name of a proc is told by, if this is one."""
    return paths[int(word[1:])] if word.startswith("p") else word
