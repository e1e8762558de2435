"""Values of kinds: as they are shown, and as their cells lie."""

from begunended.kindforms import pieces_of
from begunended.kindlore import host_of
from begunended.setreading import bits_of, ordinals_of
from begunended.values import is_integer, is_sign

ORDINALS = ("integer", "boolean", "char", "told")


def value_shown(kind, layout, cells, at):
    """The value of a kind whose cells begin here."""
    if kind.form == "array":
        member = layout.parts[0]
        begins = [at + row * member.size for row in range(layout.many)]
        return tuple([value_shown(kind.member, member, cells, begin) for begin in begins])
    if kind.form == "record":
        return fields_shown(kind.fields, layout, cells, at)
    return None if cells[at] is None else cell_shown(host_of(kind), cells[at])


def cell_shown(kind, value):
    """A set cell of a kind that is its own host."""
    if kind.form == "told":
        return kind.names[value]
    if kind.form == "set":
        return ordinals_of(value)
    if kind.form == "pointer":
        return "nil" if value == 0 else "piece"
    return value


def fields_shown(fields, layout, cells, at):
    """The fields of a record or an arm, and what lives of its variant."""
    shown = []
    for piece, part, offset in zip(pieces_of(fields), layout.parts, layout.offsets):
        shown.append(value_shown(piece.kind, part, cells, at + offset))
    variant = fields.variant
    if variant is not None:
        begin = at + layout.offsets[-1]
        arm = cells[begin]
        inner = layout.parts[-1].parts[arm] if arm is not None else None
        is_bare = inner is None or inner.form == "nothing"
        shown = [*shown, arm, () if is_bare else fields_shown(variant.arms[arm].fields, inner, cells, begin + 1)]
    return tuple(shown)


def value_cells(kind, layout, value):
    """The cells of a shown value of a kind, without unset ones and pointers; None if it is none."""
    if kind.form == "array":
        return array_cells(kind, layout, value)
    if kind.form == "record":
        return fields_cells(kind.fields, layout, value)
    if kind.form == "set":
        return set_cells(kind, value)
    number = ordinal_shown(host_of(kind), value)
    if number is None or not kind.low <= number <= kind.high:
        return None
    return [number if host_of(kind).form == "told" else value]


def ordinal_shown(host, value):
    """The ordinal of a shown value of this host, None if it is none."""
    if host.form == "integer":
        return value if is_integer(value) else None
    if host.form == "boolean":
        return int(value) if isinstance(value, bool) else None
    if host.form == "char":
        return ord(value) if is_sign(value) else None
    if host.form == "told" and isinstance(value, str) and value in host.names:
        return host.names.index(value)
    return None


def array_cells(kind, layout, value):
    if not isinstance(value, tuple) or len(value) != layout.many:
        return None
    cells = []
    for row in value:
        found = value_cells(kind.member, layout.parts[0], row)
        if found is None:
            return None
        cells.extend(found)
    return cells


def set_cells(kind, value):
    bits = bits_of(value)
    if bits is None or [number for number in value if not kind.base.low <= number <= kind.base.high]:
        return None
    return [bits]


def fields_cells(fields, layout, value):
    """The cells of the fields of a record, or of an arm."""
    pieces = pieces_of(fields)
    variant = fields.variant
    if not isinstance(value, tuple) or len(value) != len(pieces) + (0 if variant is None else 2):
        return None
    cells = []
    for piece, part, field in zip(pieces, layout.parts, value):
        found = value_cells(piece.kind, part, field)
        if found is None:
            return None
        cells.extend(found)
    if variant is None:
        return cells
    tag = None if variant.tag is None else ordinal_shown(host_of(variant.tag.kind), value[-3])
    found = arm_cells(variant, layout.parts[-1], tag, value[-2], value[-1])
    return None if found is None else cells + found


def arm_cells(variant, layout, tag, arm, value):
    """The cells of arms, of which this one lives; with a tag it is the arm of the tag's value."""
    if not is_integer(arm) or not 0 <= arm <= len(variant.arms):
        return None
    if variant.tag is not None and arm != arm_of_value(variant, tag):
        return None
    cells = []
    inner = layout.parts[arm]
    if inner.form == "nothing":
        if not isinstance(value, tuple) or value:
            return None
    else:
        cells = fields_cells(variant.arms[arm].fields, inner, value)
        if cells is None:
            return None
    return [arm] + cells + [None for _ in range(layout.size - 1 - len(cells))]


def arm_of_value(variant, number):
    """The number of the arm that has this value, that of the empty one without any."""
    for at, arm in enumerate(variant.arms):
        if number in arm.numbers:
            return at
    return len(variant.arms)
