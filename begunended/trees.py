"""Trees: what a text is made of, and what could stand behind the beginning of one."""

from begunended.reading import read_tokens, read_whole
from begunended.tokens import tokens


def tree(text):
    """The tree of a text, as tuples without places."""
    rows = tokens(text)
    return read_whole(text, rows).tree


def beginning(text):
    """What could stand behind a beginning, and with how many tokens each goes on at least."""
    rows = tokens(text)
    could = read_tokens(rows).could_stand()
    return tuple(sorted([(token, could[token]) for token in could]))
