"""Layouts: what the machine keeps of the kinds of a program."""

from begunended.errors import NoPlace
from begunended.kindforms import layout_text
from begunended.told import kind_at


def layout_of(program, place):
    """The layout of the variable, parameter or field that is told at this place."""
    kind = kind_at(program.facts, place)
    if kind is None:
        raise NoPlace(place)
    return layout_text(kind)


def layouts(program):
    """The names and layouts of the kinds that pointers aim at, in the sequence of the text."""
    found = []
    taken = {}
    for pointer in program.facts.pointers:
        if pointer.aim not in taken:
            taken[pointer.aim] = True
            found.append((pointer.aim.layout_name, layout_text(pointer.aim)))
    return tuple(found)
