"""The plain code of a program, routine by routine, whatever its length."""

from begunended.plans import Plan
from begunended.statementcode import StatementCode


NAMING_LABELS = {"label": True, "jump": True, "unless": True, "table": True, "choose": True, "far": True}


def made_plan(program):
    """The plan of a program with the code of all its routines; it is made when it is first asked for."""
    if program.plan is None:
        program.plan = coded_plan(program)
    return program.plan


def coded_plan(program):
    """The plan of a program with the code of all its routines, labels numbered as their rows stand."""
    plan = Plan(program)
    for code in plan.codes.values():
        StatementCode(plan, code).body()
    numbers = {}
    for routine, code in plan.codes.items():
        told = [row[1] for row in code.rows if row[0] == "label"]
        numbers[routine] = {label: number for number, label in enumerate(told)}
    for routine, code in plan.codes.items():
        code.rows = [numbered(row, routine, numbers) if row[0] in NAMING_LABELS else row for row in code.rows]
        code.far_labels = {numbers[routine][label]: True for label in code.far_labels}
        code.label_rows = {row[1]: at for at, row in enumerate(code.rows) if row[0] == "label"}
    return plan


def numbered(row, routine, numbers):
    """A row that names labels with the numbers that these have at last."""
    own = numbers[routine]
    if row[0] == "table":
        return row[0], row[1], tuple([own.get(label) for label in row[2]])
    if row[0] == "choose":
        return row[0], tuple([(number, own[label]) for number, label in row[1]])
    if row[0] == "far":
        for _ in range(row[1]):
            routine = routine.outside
        return row[0], row[1], numbers[routine][row[2]]
    return row[0], own[row[1]]


def rows_text(rows, known):
    """The list of rows of code as they are written; known are rows and how these are written, and come to be more."""
    found = []
    for row in rows:
        if row[0] == "step":
            found.append("line " + str(row[1]))
        else:
            if row not in known:
                known[row] = row_text(row)
            found.append(known[row])
    return found


def row_text(row):
    """A row of code as it is written, but for a row step."""
    words = []
    for part in row:
        if isinstance(part, tuple):
            words.extend(words_of(part))
        else:
            words.append(str(part))
    return " ".join(words)


def words_of(parts):
    """The words of a row of parts, in which tuples stand for the rows of their parts, None for no label."""
    words = []
    for part in parts:
        if isinstance(part, tuple):
            words.extend(words_of(part))
        else:
            words.append("-" if part is None else str(part))
    return words
