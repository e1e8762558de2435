"""Kinds: of what kind each expression of a program is, and which places have kinds that are alike."""

from begunended.errors import NoPlace
from begunended.kindforms import form_of
from begunended.kindlore import do_agree
from begunended.told import kind_at


def expressions(program):
    """The places of the first and last token of each expression and place, and its form."""
    facts = program.facts
    # By the first token, the longest ahead.
    spans = sorted([(first, -last, form_of(kind)) for first, last, kind, _ in facts.spans])
    return tuple([(*facts.place(first), *facts.place(-last), form) for first, last, form in spans])


def same_kind(program, one, other):
    """Whether the variables, parameters or fields told at two places have the same kind."""
    kinds = both_kinds(program, one, other)
    return kinds[0] == kinds[1]


def agree(program, one, other):
    """Whether the kinds of what is told at two places agree."""
    kinds = both_kinds(program, one, other)
    return do_agree(kinds[0], kinds[1])


def both_kinds(program, one, other):
    """The kinds of what is told at two places: NoPlace for the first of them that tells none."""
    kinds = []
    for place in (one, other):
        kind = kind_at(program.facts, place)
        if kind is None:
            raise NoPlace(place)
        kinds.append(kind)
    return kinds
