"""Edits: programs with other lines, and which routines an edit makes anew."""

from begunended.compiling import head_rows, plan_compiled, proc_head
from begunended.errors import BadLines, BadText
from begunended.program import Program
from begunended.values import is_integer


def edited(program, first, last, lines):
    """The program in whose text other lines stand in the place of some."""
    own = program.text.split("\n")
    if not is_integer(first) or not is_integer(last) or not 1 <= first <= last + 1 <= len(own) + 1:
        raise BadLines((first, last))
    if not isinstance(lines, tuple) or not all([isinstance(line, str) and "\n" not in line for line in lines]):
        raise BadText(lines)
    return Program("\n".join(own[:first - 1] + list(lines) + own[last:]))


def anew(program, other):
    """The numbers of the routines of another program that have to be compiled anew."""
    plan, twin = plan_compiled(program), plan_compiled(other)
    if program == other:
        return ()
    ahead, told = compared_rows(plan), compared_rows(twin)
    has_other_heads = head_rows(program, plan) != head_rows(other, twin)
    paths = list(told)
    return tuple([at for at, path in enumerate(paths) if has_other_heads or ahead.get(path) != told[path]])


def compared_rows(plan):
    """The dict of the rows of all procs as they are compared, by the names of their routines."""
    if plan.compared_rows is None:
        plan.compared_rows = rows_by_path(plan)
    return plan.compared_rows


def rows_by_path(plan):
    """The dict of the rows of all procs, told by names in the place of numbers, by the names of their routines."""
    paths = [path_of(routine) for routine in plan.facts.routines]
    found = {}
    for path, code, work in zip(paths, plan.codes.values(), plan.measure.works):
        line = plan.facts.place(code.telling.token)[0]
        head = [head_told(row, paths) for row in proc_head(plan, code, work)]
        found[path] = head + [row_told(row, paths, line) for row in code.rows]
    return found


def path_of(routine):
    """The names of a routine and of those around it, the program's first, as one text."""
    names = []
    while routine is not None:
        names.append(routine.name)
        routine = routine.outside
    return ".".join(list(reversed(names)))


def head_told(row, paths):
    """A row ahead of a proc's code, with procs told by names."""
    words = row.split(" ")
    return [words[0]] + [path_told(word, paths) for word in words[1:]] if words[0] == "proc" else words


def row_told(row, paths, line):
    """A row of code with lines counted from the routine's name, and procs told by names."""
    word = row[0]
    if word == "step" or word == "line":
        return "line", row[1] - line
    if word == "call" or word == "hand":
        return word, path_told(row[1], paths), *row[2:]
    return row


def path_told(word, paths):
    """What the name of a proc is told by, if this is one."""
    return paths[int(word[1:])] if word.startswith("p") else word
