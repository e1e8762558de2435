"""Spelling: the tokens of the shortest text that a tree could have.

A piece is a token, or a tuple of a word and a thing that is still to be spelled. A thing that no tree
has raises BadValue; what is spelled of other things may be read as another tree, or as none.
"""

from begunended.errors import BadValue
from begunended.values import MAXINT, is_integer

COMPARED = ("=", "<>", "<", ">", "<=", ">=", "in")
ADDED = ("+", "-", "or")
MULTIPLIED = ("*", "div", "mod", "and")


def fitting(value, size):
    """This value, if it is a tuple of so many things."""
    if not isinstance(value, tuple) or len(value) != size:
        raise BadValue(value)
    return value


def row(value):
    """This value, if it is a tuple."""
    if not isinstance(value, tuple):
        raise BadValue(value)
    return value


def word_of(value):
    """The word that a tree begins with."""
    if not isinstance(value, tuple) or not value or not isinstance(value[0], str):
        raise BadValue(value)
    return value[0]


def parted(word, things, sign):
    """Pieces for things in a row, with a sign between each two."""
    pieces = []
    for thing in row(things):
        if pieces:
            pieces.append(sign)
        pieces.append((word, thing))
    return pieces


def ended(word, things):
    """Pieces for things in a row, with a semicolon behind each."""
    pieces = []
    for thing in row(things):
        pieces = [*pieces, (word, thing), ";"]
    return pieces


def spell_name(value):
    if not isinstance(value, str):
        raise BadValue(value)
    return [value]


def spell_number(value):
    if not is_integer(value) or value < 0 or value > MAXINT:
        raise BadValue(value)
    return [str(value)]


def spell_string(value):
    if not isinstance(value, str):
        raise BadValue(value)
    return ["'" + value.replace("'", "''") + "'"]


def spell_text(value):
    word, name, head, block = fitting(value, 4)
    if word != "program":
        raise BadValue(value)
    files = ["(", *parted("name", head, ","), ")"] if row(head) else []
    return ["program", ("name", name), *files, ";", ("block", block), "."]


def spell_block(value):
    numbers, constants, kinds, variables, routines, statements = fitting(value, 6)
    pieces = []
    if row(numbers):
        pieces = ["label", *parted("number", numbers, ","), ";"]
    if row(constants):
        pieces = [*pieces, "const", *ended("definition", constants)]
    if row(kinds):
        pieces = [*pieces, "type", *ended("naming", kinds)]
    if row(variables):
        pieces = [*pieces, "var", *ended("row", variables)]
    pieces = [*pieces, *ended("routine", routines)]
    return [*pieces, "begin", *parted("statement", statements, ";"), "end"]


def spell_definition(value):
    name, constant = fitting(value, 2)
    return [("name", name), "=", ("constant", constant)]


def spell_naming(value):
    name, kind = fitting(value, 2)
    return [("name", name), "=", ("kind", kind)]


def spell_row(value):
    told, kind = fitting(value, 2)
    return [*parted("name", told, ","), ":", ("kind", kind)]


def spell_routine(value):
    """A routine; its body is a block, or the word forward."""
    fitting(value, 5)
    body = value[4] if value[4] == "forward" else ("block", value[4])
    return [*spell_heading(value[:4]), ";", body]


def spell_heading(value):
    word, name, parameters, result = fitting(value, 4)
    if word != "procedure" and word != "function":
        raise BadValue(value)
    given = ["(", *parted("parameter", parameters, ";"), ")"] if row(parameters) else []
    behind = [] if result is None else [":", ("name", result)]
    return [word, ("name", name), *given, *behind]


def spell_parameter(value):
    word = word_of(value)
    if word != "value" and word != "var":
        return spell_heading(value)
    told, kind = fitting(value, 3)[1:]
    pieces = [*parted("name", told, ","), ":", ("name", kind)]
    return ["var", *pieces] if word == "var" else pieces


def spell_constant(value):
    word, told = fitting(value, 2)
    if word == "plus":
        return ["+", ("constant", told)]
    if word == "minus":
        return ["-", ("constant", told)]
    return spell_leaf(value)


def spell_leaf(value):
    """What is a name, a number or a string alone."""
    word = word_of(value)
    if word not in ("name", "number", "string"):
        raise BadValue(value)
    return [(word, fitting(value, 2)[1])]


def spell_kind(value):
    word = word_of(value)
    if word == "told":
        return ["(", *parted("name", fitting(value, 2)[1], ","), ")"]
    if word == "from":
        low, high = fitting(value, 3)[1:]
        return [("constant", low), "..", ("constant", high)]
    if word == "array":
        is_packed, indices, member = fitting(value, 4)[1:]
        head = ["packed", "array"] if is_packed is True else ["array"]
        return [*head, "[", *parted("kind", indices, ","), "]", "of", ("kind", member)]
    if word == "record":
        is_packed, rows, variant = fitting(value, 4)[1:]
        head = ["packed", "record"] if is_packed is True else ["record"]
        return [*head, ("fields", (rows, variant)), "end"]
    if word == "set" or word == "file":
        return [word, "of", ("kind", fitting(value, 2)[1])]
    if word == "pointer":
        return ["^", ("name", fitting(value, 2)[1])]
    return spell_leaf(value)


def spell_fields(value):
    rows, variant = value
    pieces = parted("row", rows, ";")
    if variant is None:
        return pieces
    return [*pieces, ";", ("variant", variant)] if pieces else [("variant", variant)]


def spell_variant(value):
    tag, name, arms = fitting(value, 3)
    head = [] if tag is None else [("name", tag), ":"]
    return ["case", *head, ("name", name), "of", *parted("arm", arms, ";")]


def spell_arm(value):
    constants, rows, variant = fitting(value, 3)
    return [*parted("constant", constants, ","), ":", "(", ("fields", (rows, variant)), ")"]


def spell_variable(value):
    """A place: v[e, f] has fewer tokens than v[e][f]."""
    ways = []
    while word_of(value) in ("index", "field", "aim"):
        ways.append(value)
        value = value[1] if len(value) > 1 else ()
    if word_of(value) != "name":
        raise BadValue(value)
    pieces = [("name", fitting(value, 2)[1])]
    for way in reversed(ways):
        if way[0] == "aim":
            fitting(way, 2)
            pieces.append("^")
        elif way[0] == "field":
            pieces = [*pieces, ".", ("name", fitting(way, 3)[2])]
        else:
            pieces = pieces[:-1] + [","] if pieces[-1] == "]" else pieces + ["["]
            pieces = [*pieces, ("expression", fitting(way, 3)[2]), "]"]
    return pieces


TELLING_SPELLERS = {
    "text": spell_text, "block": spell_block, "definition": spell_definition, "naming": spell_naming,
    "row": spell_row, "routine": spell_routine, "parameter": spell_parameter,
    "constant": spell_constant, "kind": spell_kind, "fields": spell_fields, "variant": spell_variant,
    "arm": spell_arm, "name": spell_name, "number": spell_number, "string": spell_string,
    "variable": spell_variable,
}
