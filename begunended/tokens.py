"""Tokens: the words, names, numbers, strings and signs of a text, each with its place."""

from begunended.errors import BadToken
from begunended.values import MAXINT

WORDS = {
    "and": True, "array": True, "begin": True, "case": True, "const": True, "div": True, "do": True, "downto": True,
    "else": True, "end": True, "file": True, "for": True, "function": True, "goto": True, "if": True, "in": True,
    "label": True, "mod": True, "nil": True, "not": True, "of": True, "or": True, "packed": True, "procedure": True,
    "program": True, "record": True, "repeat": True, "set": True, "then": True, "to": True, "type": True, "until": True,
    "var": True, "while": True, "with": True,
}
LETTERS = "abcdefghijklmnopqrstuvwxyzABCDEFGHIJKLMNOPQRSTUVWXYZ"
NAME_SIGNS = "abcdefghijklmnopqrstuvwxyzABCDEFGHIJKLMNOPQRSTUVWXYZ0123456789"
SHORT_SIGNS = "+-*=<>()[].,:;^"
# Signs with which no longer sign and no comment begins.
SINGLE_SIGNS = "+-*=)[],;^"
LONG_SIGNS = ("<>", "<=", ">=", "..", ":=")


def tokens(text):
    """The tuple of (sort, told, line, column) for each token of the text."""
    if not isinstance(text, str):
        raise BadToken((0, 0))
    found = []
    at = 0
    line = 1
    line_begin = 0
    many = len(text)
    while at < many:
        sign = text[at]
        if sign == " ":
            at += 1
        elif sign in LETTERS:
            end = at + 1
            while end < many and text[end] in NAME_SIGNS:
                end += 1
            told = text[at:end].lower()
            found.append(("word" if told in WORDS else "name", told, line, at - line_begin + 1))
            at = end
        elif sign in SINGLE_SIGNS:
            found.append(("sign", sign, line, at - line_begin + 1))
            at += 1
        elif sign == "\n":
            at += 1
            line += 1
            line_begin = at
        else:
            end = gap_end(text, at)
            if end > at:
                line += text.count("\n", at, end)
                line_begin = max(line_begin, text.rfind("\n", at, end) + 1)
            else:
                sort, told, end = token_at(text, at)
                if end == at:
                    raise BadToken((line, at - line_begin + 1))
                found.append((sort, told, line, at - line_begin + 1))
            at = end
    return tuple(found)


def gap_end(text, at):
    """Where a comment that begins here ends; here if none does."""
    if text[at] == "{":
        return comment_end(text, at, at + 1)
    if text[at:at + 2] == "(*":
        return comment_end(text, at, at + 2)
    return at


def comment_end(text, begin, inside):
    """Where the comment ends whose signs stand from inside on; where it begins if it does not end."""
    for at in range(inside, len(text)):
        if text[at] == "}":
            return at + 1
        if text[at:at + 2] == "*)":
            return at + 2
    return begin


def token_at(text, at):
    """The sort of the token without letters that begins here, what is told of it, and its end: here if none does."""
    sign = text[at]
    if is_figure(sign):
        return number_at(text, at)
    if sign == "'":
        return string_at(text, at)
    if text[at:at + 2] in LONG_SIGNS:
        return "sign", text[at:at + 2], at + 2
    # A comment that does not end begins with a sign, too, but is none.
    if sign in SHORT_SIGNS and text[at:at + 2] != "(*":
        return "sign", sign, at + 1
    return "", "", at


def is_letter(sign):
    return "a" <= sign <= "z" or "A" <= sign <= "Z"


def is_figure(sign):
    return "0" <= sign <= "9"


def number_at(text, at):
    end = at
    while end < len(text) and is_figure(text[end]):
        end += 1
    number = number_of(text[at:end])
    return "number", number, at if number > MAXINT else end


def number_of(figures):
    """The number of these figures; some number above maxint for any such."""
    # Python refuses to read very long rows of figures.
    short = figures.lstrip("0")
    if len(short) > 10:
        return MAXINT + 1
    return int(short) if short else 0


def string_at(text, at):
    """A string; its end is where it begins if it does not end within its line, or has no signs."""
    signs = []
    end = at + 1
    while end < len(text) and text[end] != "\n":
        if text[end] != "'":
            signs.append(text[end])
            end += 1
        elif text[end:end + 2] == "''":
            signs.append("'")
            end += 2
        else:
            return "string", "".join(signs), end + 1 if signs else at
    return "string", "".join(signs), at
