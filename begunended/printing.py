"""Printing: the shortest text of a tree, and the brackets that it needs."""

from begunended.errors import BadSyntax, BadToken, BadValue
from begunended.reading import read_whole
from begunended.spellingdeeds import spelled
from begunended.tokens import tokens
from begunended.values import same_values


def printed(tree):
    """The text with the fewest tokens that has this tree, one blank between each two."""
    return " ".join(printed_tokens(tree)[0])


def needed_brackets(tree):
    """The brackets around expressions in the printed text, and the tree that it has without each."""
    row, pairs = printed_tokens(tree)
    found = []
    for at, to in pairs:
        others = row[:at] + row[at + 1:to] + row[to + 1:]
        found.append((at, to, tree_of(" ".join(others))))
    return tuple(found)


def printed_tokens(tree):
    """The tokens of the printed text, and the pairs of brackets around expressions."""
    try:
        row, pairs = spelled(tree)
    except BadValue:
        raise BadValue(tree) from None
    # What is no tree is spelled, too, but not read as the same again.
    if not same_values(tree_of(" ".join(row)), tree):
        raise BadValue(tree)
    return row, pairs


def tree_of(text):
    """The tree of a text, None if it has none."""
    try:
        return read_whole(text, tokens(text)).tree
    except (BadToken, BadSyntax):
        return None
