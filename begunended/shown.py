"""Values as text files tell them."""

from begunended.errors import BadValue, BadWidth
from begunended.values import MAXINT, is_integer, is_signs

WIDEST = 255
LONGEST = 255


def shown(value, width):
    """An integer, a bool or a string with blanks ahead to this width."""
    if not is_shown_integer(value) and not isinstance(value, bool) and not is_shown_string(value):
        raise BadValue(value)
    if not is_width(width):
        raise BadWidth(width)
    if isinstance(value, bool):
        return ("true" if value else "false")[:width].rjust(width)
    if isinstance(value, str):
        return value[:width].rjust(width)
    return str(value).rjust(width)


def is_width(width):
    """Whether this is an integer from 1 to 255."""
    return is_integer(width) and 1 <= width <= WIDEST


def is_shown_integer(value):
    """Whether this is an integer to maxint either way."""
    return is_integer(value) and -MAXINT <= value <= MAXINT


def is_shown_string(value):
    """Whether this is a string of one to 255 printable signs."""
    return is_signs(value) and 1 <= len(value) <= LONGEST
