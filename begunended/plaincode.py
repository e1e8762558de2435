"""The plain code of a program, routine by routine, whatever its length."""

from begunended.plans import Plan
from begunended.statementcode import StatementCode


def made_plan(program):
    """The plan of a program with the code of all its routines, labels numbered as their rows stand."""
    plan = Plan(program)
    for code in plan.codes.values():
        StatementCode(plan, code).body()
    numbers = {}
    for routine, code in plan.codes.items():
        numbers[routine] = {}
        for row in code.rows:
            if row[0] == "label":
                numbers[routine][row[1]] = len(numbers[routine])
    for routine, code in plan.codes.items():
        code.rows = [numbered(row, routine, numbers) for row in code.rows]
    return plan


def numbered(row, routine, numbers):
    """A row with the numbers that its labels have at last."""
    own = numbers[routine]
    if row[0] in ("label", "jump", "unless"):
        return row[0], own[row[1]]
    if row[0] == "table":
        return row[0], row[1], tuple([own.get(label) for label in row[2]])
    if row[0] == "choose":
        return row[0], tuple([(number, own[label]) for number, label in row[1]])
    if row[0] == "far":
        for _ in range(row[1]):
            routine = routine.outside
        return row[0], row[1], numbers[routine][row[2]]
    return row


def row_text(row):
    """A row of code as it is written."""
    if row[0] == "step":
        return "line " + str(row[1])
    words = []
    for part in row:
        words = words + words_of(part)
    return " ".join(words)


def words_of(part):
    """The words of a part of a row, in which tuples stand for the rows of their parts."""
    if part is None:
        return ["-"]
    if not isinstance(part, tuple):
        return [str(part)]
    words = []
    for inner in part:
        words = words + words_of(inner)
    return words
