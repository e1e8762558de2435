"""Compiling: the plain unit of a program."""

from begunended.errors import TooLong
from begunended.flows import NO_LIMIT, Flow, Walk
from begunended.kindforms import result_layout
from begunended.layouts import layouts
from begunended.plaincode import made_plan, row_text
from begunended.unitreading import MOST_ROWS, MOST_THINGS
from begunended.units import Unit

MOST_LABELS = 100
MOST_WORK = 99


def compiled(program):
    """The plain unit of a program: TooLong with the first routine that is too long for one."""
    return unit_compiled(program, plan_compiled(program))


def unit_compiled(program, plan):
    """The plain unit of a program, by its plan."""
    return Unit(unit_text(head_rows(program, plan), plan, plan.works))


def plan_compiled(program):
    """The plan of a program, works told: TooLong likewise."""
    plan = made_plan(program)
    for number, code in enumerate(plan.codes.values()):
        if is_too_long(code):
            raise TooLong(number)
    most = [MOST_WORK for _ in plan.codes]
    plan.works = works_of(Unit(unit_text(head_rows(program, plan), plan, most)))
    for number, work in enumerate(plan.works):
        if work > MOST_WORK:
            raise TooLong(number)
    return plan


def is_too_long(code):
    """Whether a routine has more than a proc may have."""
    labels = [row for row in code.rows if row[0] == "label"]
    is_long = len(code.rows) > MOST_ROWS or len(labels) > MOST_LABELS
    return is_long or len(code.takes) + len(code.names) > MOST_THINGS or code.is_wide


def works_of(unit):
    """How many things lie on the workspace of each proc at most."""
    flow = Flow(unit)
    walks = [Walk(flow, name, NO_LIMIT) for name in unit.procs]
    return [max([len(shape) for shape in walk.shapes.values()]) for walk in walks]


def head_rows(program, plan):
    """The rows of layouts and signatures."""
    rows = [f"layout {name} {layout}" for name, layout in layouts(program)]
    for telling in plan.headings:
        words = ["signature", plan.signature(telling), "takes", *plan.params(telling), "gives", result_layout(telling)]
        rows.append(" ".join(words))
    return rows


def unit_text(heads, plan, works):
    rows = list(heads)
    for code, work in zip(plan.codes.values(), works):
        rows.extend(proc_rows(plan, code, work))
    return "\n".join(rows)


def proc_rows(plan, code, work):
    """The rows of the proc of a routine."""
    routine = code.telling
    outer = "-" if routine.outside is None else "p" + str(routine.outside.number)
    rows = [
        f"proc p{routine.number} {outer}", " ".join(["takes", *code.takes]), "gives " + result_layout(routine),
        " ".join(["names", *code.names]),
    ]
    if routine.outside is None:
        rows.append(" ".join(["files", *[telling.name for telling in plan.facts.head_files]]))
    return [*rows, "work " + str(work), *[row_text(row) for row in code.rows], "end"]
