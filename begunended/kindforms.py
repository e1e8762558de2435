"""Kinds as they are shown, and the cells and layouts that they have."""

from begunended.kindlore import host_of
from begunended.signs import sign_of

MOST_CELLS = 2000
MOST_PIECES = 12
MOST_ARMS = 7


def form_of(kind):
    """A kind as a text would tell it."""
    form = kind.form
    if form == "told":
        return "(" + ", ".join(kind.names) + ")"
    if form == "stretch":
        return value_form(kind.host, kind.low) + ".." + value_form(kind.host, kind.high)
    if form == "string":
        return f"packed array [1..{kind.length}] of char"
    if form == "array":
        return packed_form(kind) + "array [" + form_of(kind.index) + "] of " + form_of(kind.member)
    if form == "record":
        return packed_form(kind) + "record " + fields_form(kind.fields) + " end"
    if form == "set":
        return "set of " + form_of(kind.base)
    if form == "pointer":
        return "^" + kind.aim_name
    if form == "file":
        return "file of " + form_of(kind.member)
    return form


def packed_form(kind):
    return "packed " if kind.is_packed else ""


def value_form(kind, number):
    """The value of an ordinal kind with this ordinal, by itself."""
    host = host_of(kind)
    if host.form == "boolean":
        return "true" if number == 1 else "false"
    if host.form == "char":
        return "'" + sign_of(number).replace("'", "''") + "'"
    if host.form == "told":
        return host.names[number]
    return str(number)


def fields_form(fields):
    rows = [field.name + ": " + form_of(field.kind) for field in fields.rows]
    variant = fields.variant
    if variant is not None:
        tag = "" if variant.tag is None else variant.tag.name + ": "
        arms = [arm_form(variant.kind, arm) for arm in variant.arms]
        rows.append("case " + tag + form_of(variant.kind) + " of " + "; ".join(arms))
    return "; ".join(rows)


def arm_form(kind, arm):
    numbers = [value_form(kind, number) for number in arm.numbers]
    return ", ".join(numbers) + ": (" + fields_form(arm.fields) + ")"


def pieces_of(fields):
    """The fields that are pieces of the layout, the tag among them."""
    variant = fields.variant
    if variant is None or variant.tag is None:
        return fields.rows
    return fields.rows + [variant.tag]


def cells_of_fields(fields):
    """How many cells fields and their variant have; -1 if they have no layout."""
    variant = fields.variant
    pieces = pieces_of(fields)
    many = sum([piece.kind.cells for piece in pieces])
    if variant is not None:
        arms = [cells_of_fields(arm.fields) if has_pieces(arm.fields) else 0 for arm in variant.arms]
        if len(arms) > MOST_ARMS or min(arms) < 0:
            return -1
        many += max(arms)
    if len(pieces) + (0 if variant is None else 1) > MOST_PIECES or not 1 <= many <= MOST_CELLS:
        return -1
    return many


def has_pieces(fields):
    return len(fields.rows) > 0 or fields.variant is not None


def has_layout(kind):
    """Whether a kind whose parts have layouts has one itself."""
    return 1 <= kind.cells <= MOST_CELLS


def layout_text(kind):
    """The layout of a kind; what pointers aim at has its name already."""
    form = host_of(kind).form
    if form == "integer" or form == "told":
        return "n"
    if form == "boolean":
        return "t"
    if form == "char":
        return "c"
    if form == "set":
        return "s"
    if form == "pointer":
        return "^" + kind.aim.layout_name
    if form == "text":
        return "<text>"
    if form == "file":
        return "<" + layout_text(kind.member) + ">"
    if form == "record":
        return fields_layout(kind.fields)
    return str(kind.index.high - kind.index.low + 1) + "*" + layout_text(kind.member)


def fields_layout(fields):
    """The layout of a record with these fields, () for none."""
    pieces = [layout_text(piece.kind) for piece in pieces_of(fields)]
    if fields.variant is not None:
        arms = [fields_layout(arm.fields) for arm in fields.variant.arms]
        pieces.append("{" + "|".join(arms) + "|()}")
    return "(" + ",".join(pieces) + ")"


def result_layout(telling):
    """The layout of what a routine gives, - for nothing."""
    return "-" if telling.kind is None else layout_text(telling.kind)


def signature_key(telling):
    """What a routine takes and gives, by modes and layouts: as one word, so that it may be a key."""
    takes = []
    for parameter in telling.parameters:
        if parameter.calling is not None:
            takes.append("@" + signature_key(parameter))
        else:
            takes.append(("&" if parameter.mode == "var" else "") + layout_text(parameter.kind))
    return "[" + ";".join(takes) + ":" + result_layout(telling) + "]"
