"""Compiling: the plain unit of a program."""

from begunended.errors import TooLong
from begunended.heights import all_changes, most_height
from begunended.kindforms import result_layout
from begunended.layouts import layouts
from begunended.plaincode import made_plan, rows_text
from begunended.unitreading import MOST_ROWS, MOST_THINGS
from begunended.units import Unit

MOST_LABELS = 100
MOST_WORK = 99


class Measure:
    """How many things each routine's workspace holds at most, and the first routine that is too long, or None."""

    def __init__(self, works, long_one):
        self.works = works
        self.long_one = long_one


def compiled(program):
    """The plain unit of a program: TooLong with the first routine that is too long for one."""
    return unit_compiled(program, plan_compiled(program))


def unit_compiled(program, plan):
    """The plain unit of a program, by its plan."""
    if plan.unit is None:
        plan.unit = Unit(unit_text(program, plan))
    return plan.unit


def plan_compiled(program):
    """The plan of a program, which was measured: TooLong likewise."""
    plan = made_plan(program)
    if plan.measure is None:
        plan.measure = measured(plan)
    if plan.measure.long_one is not None:
        raise TooLong(plan.measure.long_one)
    return plan


def measured(plan):
    """The measure of a plan; works are not looked at where a routine has more than a proc may have."""
    works = []
    long_ones = [number for number, code in enumerate(plan.codes.values()) if is_too_long(code)]
    if not long_ones:
        changes = all_changes(plan)
        works = [most_height(code, changes) for code in plan.codes.values()]
        long_ones = [number for number, work in enumerate(works) if work > MOST_WORK]
    return Measure(works, long_ones[0] if long_ones else None)


def is_too_long(code):
    """Whether a routine has more than a proc may have."""
    is_long = len(code.rows) > MOST_ROWS or len(code.label_rows) > MOST_LABELS
    return is_long or len(code.takes) + len(code.names) > MOST_THINGS or code.is_wide


def head_rows(program, plan):
    """The rows of layouts and signatures."""
    rows = [f"layout {name} {layout}" for name, layout in layouts(program)]
    for telling in plan.headings:
        words = ["signature", plan.signature(telling), "takes", *plan.params(telling), "gives", result_layout(telling)]
        rows.append(" ".join(words))
    return rows


def unit_text(program, plan):
    """The text of the plain unit of a plan that was measured."""
    rows = head_rows(program, plan)
    known = {}
    for code, work in zip(plan.codes.values(), plan.measure.works):
        rows.extend(proc_head(plan, code, work))
        rows.extend(rows_text(code.rows, known))
        rows.append("end")
    return "\n".join(rows)


def proc_head(plan, code, work):
    """The rows of the proc of a routine ahead of its code."""
    routine = code.telling
    outer = "-" if routine.outside is None else "p" + str(routine.outside.number)
    rows = [
        f"proc p{routine.number} {outer}", " ".join(["takes", *code.takes]), "gives " + result_layout(routine),
        " ".join(["names", *code.names]),
    ]
    if routine.outside is None:
        rows.append(" ".join(["files", *[telling.name for telling in plan.facts.head_files]]))
    return [*rows, "work " + str(work)]
