"""Spelling of statements and expressions, and of all pieces, whatever they stand for."""

from begunended.errors import BadValue
from begunended.spelling import ADDED, COMPARED, MULTIPLIED, TELLING_SPELLERS, fitting, parted, row
from begunended.spelling import spell_leaf, spell_variable, word_of


def spell_statement(value):
    word = word_of(value)
    if word in ("if", "while", "repeat", "for", "case", "with"):
        return spell_structure(value)
    if word == "label":
        number, plain = fitting(value, 3)[1:]
        return [("number", number), ":", ("statement", plain)]
    if word == "empty":
        fitting(value, 1)
        return []
    if word == "put":
        place, expression = fitting(value, 3)[1:]
        return [("variable", place), ":=", ("expression", expression)]
    if word == "call":
        name, given = fitting(value, 3)[1:]
        behind = ["(", *parted("argument", given, ","), ")"] if row(given) else []
        return [("name", name), *behind]
    if word == "goto":
        return ["goto", ("number", fitting(value, 2)[1])]
    if word == "begin":
        return ["begin", *parted("statement", fitting(value, 2)[1], ";"), "end"]
    raise BadValue(value)


def spell_structure(value):
    word = value[0]
    if word == "if":
        condition, then, otherwise = fitting(value, 4)[1:]
        behind = [] if otherwise is None else ["else", ("statement", otherwise)]
        return ["if", ("expression", condition), "then", ("statement", then), *behind]
    if word == "for":
        name, begin, way, end, done = fitting(value, 6)[1:]
        head = ["for", ("name", name), ":=", ("expression", begin)]
        return [*head, ("name", way), ("expression", end), "do", ("statement", done)]
    first, second = fitting(value, 3)[1:]
    if word == "while":
        return ["while", ("expression", first), "do", ("statement", second)]
    if word == "repeat":
        return ["repeat", *parted("statement", first, ";"), "until", ("expression", second)]
    if word == "case":
        return ["case", ("expression", first), "of", *parted("choice", second, ";"), "end"]
    return ["with", *parted("variable", first, ","), "do", ("statement", second)]


def spell_choice(value):
    constants, statement = fitting(value, 2)
    return [*parted("constant", constants, ","), ":", ("statement", statement)]


def spell_argument(value):
    if word_of(value) != "width":
        return [("expression", value)]
    expression, width = fitting(value, 3)[1:]
    return [("expression", expression), ":", ("expression", width)]


def spell_item(value):
    if word_of(value) != "to":
        return [("expression", value)]
    low, high = fitting(value, 3)[1:]
    return [("expression", low), "..", ("expression", high)]


def spell_expression(value):
    word = word_of(value)
    if word in COMPARED:
        one, other = fitting(value, 3)[1:]
        return [("sum", one), word, ("sum", other)]
    if word in ADDED:
        one, other = fitting(value, 3)[1:]
        return [("sum", one), word, ("term", other)]
    if word == "plus" or word == "minus":
        return ["+" if word == "plus" else "-", ("term", fitting(value, 2)[1])]
    if word in MULTIPLIED:
        one, other = fitting(value, 3)[1:]
        return [("term", one), word, ("factor", other)]
    return spell_whole_factor(value)


def spell_whole_factor(value):
    """What never stands in brackets."""
    word = word_of(value)
    if word == "nil":
        fitting(value, 1)
        return ["nil"]
    if word == "not":
        return ["not", ("factor", fitting(value, 2)[1])]
    if word == "set":
        return ["[", *parted("item", fitting(value, 2)[1], ","), "]"]
    if word == "call":
        name, given = fitting(value, 3)[1:]
        return [("name", name), "(", *parted("expression", given, ","), ")"]
    if word in ("name", "index", "field", "aim"):
        return spell_variable(value)
    return spell_leaf(value)


def bracketed(value):
    return [("bracket", "("), ("expression", value), ("bracket", ")")]


def spell_sum(value):
    """An operand that stands where a sum can."""
    return bracketed(value) if word_of(value) in COMPARED else spell_expression(value)


def spell_term(value):
    """An operand that stands where a term can."""
    word = word_of(value)
    if word in ADDED or word == "plus" or word == "minus":
        return bracketed(value)
    return spell_sum(value)


def spell_factor(value):
    """An operand that stands where a factor can."""
    return bracketed(value) if word_of(value) in MULTIPLIED else spell_term(value)


DOING_SPELLERS = {
    "statement": spell_statement, "choice": spell_choice, "argument": spell_argument,
    "item": spell_item, "expression": spell_expression, "sum": spell_sum, "term": spell_term,
    "factor": spell_factor,
}


def spelled(tree):
    """The tokens of this tree as strings, and the pairs of brackets around expressions: BadValue."""
    found = []
    pairs = []
    open_brackets = []
    to_come = [("text", tree)]
    while to_come:
        piece = to_come.pop()
        if isinstance(piece, str):
            found.append(piece)
        elif piece[0] == "bracket":
            if piece[1] == "(":
                open_brackets.append(len(found))
            else:
                pairs.append((open_brackets.pop(), len(found)))
            found.append(piece[1])
        else:
            for part in reversed(pieces_of(piece[0], piece[1])):
                to_come.append(part)
    return found, sorted(pairs)


def pieces_of(word, thing):
    """The pieces that this thing is spelled with."""
    if word in TELLING_SPELLERS:
        speller = TELLING_SPELLERS[word]
    else:
        speller = DOING_SPELLERS[word]
    return speller(thing)
