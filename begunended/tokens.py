"""Tokens: the words, names, numbers, strings and signs of a text, each with its place."""

from begunended.errors import BadToken
from begunended.values import MAXINT

WORDS = (
    "and", "array", "begin", "case", "const", "div", "do", "downto", "else", "end", "file", "for",
    "function", "goto", "if", "in", "label", "mod", "nil", "not", "of", "or", "packed", "procedure",
    "program", "record", "repeat", "set", "then", "to", "type", "until", "var", "while", "with",
)
SHORT_SIGNS = "+-*=<>()[].,:;^"
LONG_SIGNS = ("<>", "<=", ">=", "..", ":=")


def tokens(text):
    """The tuple of (sort, told, line, column) for each token of the text."""
    if not isinstance(text, str):
        raise BadToken((0, 0))
    found = []
    at = 0
    line = 1
    line_begin = 0
    while at < len(text):
        end = gap_end(text, at)
        if end == at:
            sort, told, end = token_at(text, at)
            found.append((sort, told, line, at - line_begin + 1))
        if end == at:
            raise BadToken((line, at - line_begin + 1))
        feeds = text.count("\n", at, end)
        if feeds:
            line += feeds
            line_begin = text.rfind("\n", at, end) + 1
        at = end
    return tuple(found)


def gap_end(text, at):
    """Where a blank, a line feed or a comment that begins here ends; here if none does."""
    if text[at] == " " or text[at] == "\n":
        return at + 1
    if text[at] == "{":
        return comment_end(text, at, at + 1)
    if text[at:at + 2] == "(*":
        return comment_end(text, at, at + 2)
    return at


def comment_end(text, begin, inside):
    """Where the comment ends whose signs stand from inside on; where it begins if it does not end."""
    for at in range(inside, len(text)):
        if text[at] == "}":
            return at + 1
        if text[at:at + 2] == "*)":
            return at + 2
    return begin


def token_at(text, at):
    """The sort of the token that begins here, what is told of it, and its end: here if none does."""
    sign = text[at]
    if is_letter(sign):
        return word_at(text, at)
    if is_figure(sign):
        return number_at(text, at)
    if sign == "'":
        return string_at(text, at)
    if text[at:at + 2] in LONG_SIGNS:
        return "sign", text[at:at + 2], at + 2
    # A comment that does not end begins with a sign, too, but is none.
    if sign in SHORT_SIGNS and text[at:at + 2] != "(*":
        return "sign", sign, at + 1
    return "", "", at


def is_letter(sign):
    return "a" <= sign <= "z" or "A" <= sign <= "Z"


def is_figure(sign):
    return "0" <= sign <= "9"


def word_at(text, at):
    end = at
    while end < len(text) and (is_letter(text[end]) or is_figure(text[end])):
        end += 1
    told = text[at:end].lower()
    return "word" if told in WORDS else "name", told, end


def number_at(text, at):
    end = at
    while end < len(text) and is_figure(text[end]):
        end += 1
    number = number_of(text[at:end])
    return "number", number, at if number > MAXINT else end


def number_of(figures):
    """The number of these figures; some number above maxint for any such."""
    # Python refuses to read very long rows of figures.
    short = figures.lstrip("0")
    if len(short) > 10:
        return MAXINT + 1
    return int(short) if short else 0


def string_at(text, at):
    """A string; its end is where it begins if it does not end within its line, or has no signs."""
    signs = []
    end = at + 1
    while end < len(text) and text[end] != "\n":
        if text[end] != "'":
            signs.append(text[end])
            end += 1
        elif text[end:end + 2] == "''":
            signs.append("'")
            end += 2
        else:
            return "string", "".join(signs), end + 1 if signs else at
    return "string", "".join(signs), at
