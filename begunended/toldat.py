"""What is told at a place of a text."""

from begunended.values import is_place


def telling_at(facts, place):
    """The telling at this line and column, None if there is none."""
    if not is_place(place):
        return None
    for telling in facts.tellings:
        if facts.place(telling.token) == place:
            return telling
    return None


def kind_at(facts, place):
    """The kind of the variable, parameter (value, var) or field that is told here, or None."""
    telling = telling_at(facts, place)
    if telling is None:
        return None
    if telling.word in ("variable", "field") or telling.mode == "value" or telling.mode == "var":
        return telling.kind
    return None
