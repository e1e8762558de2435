"""Orders over files: the place of a file is the box that it lies in."""

from begunended.errors import Trap
from begunended.storage import cells_to_read


def box_of(place):
    return place[0]


def do_reset(engine, frame, row):
    box_of(frame.stack[-1]).file.reset()
    frame.stack.pop()


def do_rewrite(engine, frame, row):
    box_of(frame.stack[-1]).rewrite()
    frame.stack.pop()


def do_get(engine, frame, row):
    box_of(frame.stack[-1]).file.get()
    frame.stack.pop()


def do_put(engine, frame, row):
    box_of(frame.stack[-1]).put()
    frame.stack.pop()


def do_eof(engine, frame, row):
    frame.stack[-1] = box_of(frame.stack[-1]).file.at_end()


def do_eoln(engine, frame, row):
    frame.stack[-1] = box_of(frame.stack[-1]).file.at_line_end()


def do_readn(engine, frame, row):
    frame.stack[-1] = box_of(frame.stack[-1]).file.read_number()


def do_readc(engine, frame, row):
    frame.stack[-1] = box_of(frame.stack[-1]).file.read_sign()


def do_readln(engine, frame, row):
    box_of(frame.stack[-1]).file.read_line()
    frame.stack.pop()


def do_writeln(engine, frame, row):
    box_of(frame.stack[-1]).file.write_line()
    frame.stack.pop()


def do_writen(engine, frame, row):
    place, value, width = frame.stack[-3:]
    box_of(place).file.write_number(value, width)
    del frame.stack[-3:]


def do_writet(engine, frame, row):
    place, value, width = frame.stack[-3:]
    box_of(place).file.write_truth(value, width)
    del frame.stack[-3:]


def do_writec(engine, frame, row):
    place, value, width = frame.stack[-3:]
    box_of(place).file.write_sign(value, width)
    del frame.stack[-3:]


def do_writes(engine, frame, row):
    place, other, width = frame.stack[-3:]
    cells = cells_to_read(other)[other[1]:other[1] + other[2].many]
    if None in cells:
        raise Trap("unset")
    box_of(place).file.write_string("".join(cells), width)
    del frame.stack[-3:]


FILE_DEEDS = {
    "reset": do_reset, "rewrite": do_rewrite, "get": do_get, "put": do_put, "eof": do_eof, "eoln": do_eoln,
    "readn": do_readn, "readc": do_readc, "readln": do_readln, "writeln": do_writeln, "writen": do_writen,
    "writet": do_writet, "writec": do_writec, "writes": do_writes,
}
