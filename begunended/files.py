"""Files: rows of things that are read or written one by one."""

from begunended.errors import BadInputs, BadSort, BadValue, NotText, Trap
from begunended.shown import is_shown_integer, is_shown_string, is_width, shown
from begunended.tokens import is_figure, number_of
from begunended.values import MAXINT, is_sign, same_values

UNUSED = "unused"
CLOSED = "closed"
READING = "reading"
WRITING = "writing"


class File:
    """A file: a text of printable signs in lines, or a row of any values but None.

    Its things stand in a list; gone is how many of them were gone by. A text that is read counts as
    ended by a line's end, which is gone by as a thing is, but stands in no list.
    """

    def __init__(self, word, contents):
        if not isinstance(word, str) or word not in ("text", "things"):
            raise BadSort(word)
        if contents is not None and not are_contents(word, contents):
            raise BadInputs(contents)
        self._word = word
        self._standing = UNUSED if contents is None else CLOSED
        self._things = [] if contents is None else list(contents)
        self._gone = 0
        self._looked = 0
        self._window = None

    @property
    def is_text(self):
        return self._word == "text"

    @property
    def standing(self):
        return self._standing

    @property
    def all_things(self):
        return self._told(0, len(self._things))

    @property
    def behind(self):
        if self._standing == WRITING:
            return self._told(0, len(self._things))
        return self._told(0, self._gone)

    @property
    def to_come(self):
        if self._standing == WRITING:
            return self._told(0, 0)
        return self._told(self._gone, len(self._things))

    @property
    def looked(self):
        return self._looked

    def _told(self, begin, end):
        """The things from begin on, up to end, as they are told."""
        if self._standing == UNUSED:
            return None
        if self._word == "text":
            return "".join(self._things[begin:end])
        return tuple(self._things[begin:end])

    def reset(self):
        if self._standing == UNUSED:
            raise Trap("file")
        self._standing = READING
        self._gone = 0
        self._looked = 0
        self._window = None

    def rewrite(self):
        self._standing = WRITING
        self._things = []
        self._gone = 0
        self._looked = 0
        self._window = None

    def at_end(self):
        """Whether nothing is next."""
        if self._standing == WRITING:
            return True
        self._want(READING)
        return self._next_thing() is None

    def seen(self):
        """The window, or the thing that is next, a blank for a line's end."""
        if self._standing == WRITING:
            if self._window is None:
                raise Trap("unset")
            return self._window
        self._want(READING)
        thing = self._next_or_end()
        return " " if self._word == "text" and thing == "\n" else thing

    def fill(self, thing):
        """Puts a thing into the window."""
        if thing is None or self._word == "text" and not is_sign(thing):
            raise BadValue(thing)
        self._want(WRITING)
        self._window = thing

    def get(self):
        self._want(READING)
        self._next_or_end()
        self._gone += 1

    def put(self):
        self._want(WRITING)
        if self._window is None:
            raise Trap("unset")
        self._things.append(self._window)
        self._window = None

    def at_line_end(self):
        """Whether a line's end is next."""
        self._want_text(READING)
        return self._next_or_end() == "\n"

    def read_sign(self):
        """The sign that is next, which is gone by."""
        self._want_text(READING)
        sign = self.seen()
        self.get()
        return sign

    def read_line(self):
        """Goes by all up to the next line's end, and by this."""
        self._want_text(READING)
        while self._next_or_end() != "\n":
            self._gone += 1
        self._gone += 1

    def read_number(self):
        """The integer that is next, behind blanks and line's ends."""
        self._want_text(READING)
        while self._next_or_end() in (" ", "\n"):
            self._gone += 1
        sign = self._next_or_end()
        if sign in ("+", "-"):
            self._gone += 1
        figures = []
        while is_figure(self._next_or_end()):
            figures.append(self._next_or_end())
            self._gone += 1
        if not figures:
            raise Trap("figures")
        number = number_of("".join(figures))
        if number > MAXINT:
            raise Trap("beyond")
        return -number if sign == "-" else number

    def write_number(self, value, width):
        self._write(is_shown_integer(value), value, width)

    def write_truth(self, value, width):
        self._write(isinstance(value, bool), value, width)

    def write_sign(self, value, width):
        self._write(is_sign(value), value, width)

    def write_string(self, value, width):
        self._write(is_shown_string(value), value, width)

    def write_line(self):
        self._want_text(WRITING)
        self._things.append("\n")

    def copied(self):
        """A file alike, by itself."""
        other = File(self._word, None)
        other._standing = self._standing
        other._things = list(self._things)
        other._gone = self._gone
        other._looked = self._looked
        other._window = self._window
        return other

    def __eq__(self, other):
        return isinstance(other, File) and same_values(self._state(), other._state())

    def _state(self):
        return self._word, self._standing, self._things, self._gone, self._looked, self._window

    def _want(self, standing):
        if self._standing != standing:
            raise Trap("file")

    def _want_text(self, standing):
        if self._word != "text":
            raise NotText(self._word)
        self._want(standing)

    def _next_thing(self):
        """The thing that is next, which is looked at; None if nothing is."""
        self._looked = max(self._looked, self._gone + 1)
        if self._gone < len(self._things):
            return self._things[self._gone]
        if self._gone == len(self._things) and self._is_ended_by_none():
            return "\n"
        return None

    def _is_ended_by_none(self):
        """Whether this is a text with signs whose last line is not ended."""
        return self._word == "text" and len(self._things) > 0 and self._things[-1] != "\n"

    def _next_or_end(self):
        thing = self._next_thing()
        if thing is None:
            raise Trap("end")
        return thing

    def _write(self, is_right, value, width):
        """Adds a value, if it is of the right sort, with a width."""
        if self._word != "text":
            raise NotText(self._word)
        if not is_right:
            raise BadValue(value)
        self._want(WRITING)
        if not is_width(width):
            raise Trap("width")
        for sign in shown(value, width):
            self._things.append(sign)


def are_contents(word, contents):
    """Whether a file of this sort can have these contents."""
    if word == "text":
        return isinstance(contents, str) and all([is_sign(sign) or sign == "\n" for sign in contents])
    return isinstance(contents, tuple) and all([thing is not None for thing in contents])
