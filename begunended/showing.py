"""Showing: which names mean places in a routine, and what lies there while a machine stands at a stop."""

from begunended.compiling import plan_compiled, unit_compiled
from begunended.errors import BadNumber, NoPlace, NoStop
from begunended.frames import frame_out
from begunended.plans import plan_of
from begunended.running import thing_shown
from begunended.values import is_integer


def names_in(program, number):
    """The names that mean places in a routine's statements: how many links out, and their numbers."""
    plan = plan_of(program)
    codes = list(plan.codes.values())
    if not is_integer(number) or not 0 <= number < len(codes):
        raise BadNumber(number)
    meant = names_meant(plan, codes[number])
    return tuple([(name, meant[name].links, meant[name].number) for name in sorted(list(meant))])


def shown_in(program, machine, name):
    """The value of what a name means where a machine stands."""
    plan = plan_compiled(program)
    if machine.unit != unit_compiled(program, plan) or machine.at is None:
        raise NoStop(None)
    frame = machine.engine.entered[-1]
    code = [code for code in plan.codes.values() if code.proc_name() == frame.proc.name][0]
    return value_in(plan, code, frame, name)


def value_in(plan, code, frame, name):
    """The value of what a name means in a frame of a routine: NoPlace if it means no place there."""
    meant = names_meant(plan, code)
    if not isinstance(name, str) or name not in meant:
        raise NoPlace(name)
    found = meant[name]
    return thing_shown(found.telling, frame_out(frame, found.links).things[found.number])


class MeantPlace:
    """What a name means: its telling, how many links out its frame is, its number there."""

    def __init__(self, telling, links, number):
        self.telling = telling
        self.links = links
        self.number = number


def names_meant(plan, code):
    """The dict of the names that mean places in a routine's statements."""
    found = {}
    for name, telling in tellings_seen(plan, code.telling.inner).items():
        owner = owner_of(plan, code, telling)
        if owner is not None:
            found[name] = MeantPlace(telling, code.depth - owner.depth, owner.numbers[telling])
    return found


def tellings_seen(plan, region):
    """The dict of what each name means in a region, required files among them."""
    found = {}
    while region is not None:
        for name, telling in region.told.items():
            found.setdefault(name, telling)
        region = region.outside
    for telling in plan.facts.head_files:
        found.setdefault(telling.name, telling)
    return found


def owner_of(plan, code, telling):
    """The code, around a routine or its own, that has what is told here as a place; None without one."""
    if telling.word == "parameter" and telling.calling is not None:
        return None
    routine = code.telling
    while routine is not None and telling not in plan.codes[routine].numbers:
        routine = routine.outside
    return None if routine is None else plan.codes[routine]
