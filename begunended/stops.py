"""Stops: at which rows of the plain code the statements of a program begin, and which numbers its names have."""

from begunended.compiling import plan_compiled
from begunended.plans import plan_of


def stops(program):
    """For each statement the place of its first token, its proc, and its first row."""
    plan = plan_compiled(program)
    found = []
    for code in plan.codes.values():
        for at, row in enumerate(code.rows):
            if row[0] == "step":
                found.append((row[2], len(found), code.proc_name(), at))
    return tuple([(*plan.facts.place(token), proc, at) for token, _, proc, at in sorted(found)])


def numbers(program):
    """For each routine its parameters, result and variables by name, each with its number."""
    found = []
    for code in plan_of(program).codes.values():
        found.append(tuple(sorted([(telling.name, code.numbers[telling]) for telling in code.named])))
    return tuple(found)
