"""Orders that leave told values, find places, load, store and move."""

from begunended.errors import Trap
from begunended.frames import frame_out
from begunended.numberdeeds import members_bits
from begunended.signs import sign_of
from begunended.storage import Area, arm_of, become, cells_to_put, cells_to_read, copy_of, fresh_cells, piece_of
from begunended.storage import put_cells, window_place


def do_num(engine, frame, row):
    frame.stack.append(row[1])


def do_truth(engine, frame, row):
    frame.stack.append(row[1] == 1)


def do_sign(engine, frame, row):
    frame.stack.append(sign_of(row[1]))


def do_set(engine, frame, row):
    bits = 0
    for number in row[1]:
        bits = bits | members_bits(number, number)
    frame.stack.append(bits)


def do_nil(engine, frame, row):
    frame.stack.append(0)


def do_string(engine, frame, row):
    cells = [sign_of(number) for number in row[1]]
    layout = engine.parts.table.of(str(len(cells)) + "*c")
    frame.stack.append((Area(cells, None, ("string",)), 0, layout, ()))


def do_place(engine, frame, row):
    place = frame_out(frame, row[1]).things[row[2]]
    if place is None:
        raise Trap("unset")
    frame.stack.append(place)


def do_handed(engine, frame, row):
    frame.stack.append(frame_out(frame, row[1]).things[row[2]])


def do_bind(engine, frame, row):
    frame.things[row[1]] = frame.stack.pop()


def do_field(engine, frame, row):
    frame.stack[-1] = piece_of(frame.stack[-1], row[1])


def do_arm(engine, frame, row):
    frame.stack[-1] = arm_of(frame.stack[-1], row[1])


def do_become(engine, frame, row):
    become(frame.stack[-1], row[1])
    frame.stack.pop()


def do_lives(engine, frame, row):
    place, number = frame.stack[-2:]
    arm = row[1]
    for value, other in row[2]:
        if value == number:
            arm = other
    become(piece_of(place, len(place[2].parts) - 1), arm)
    del frame.stack[-2:]


def do_index(engine, frame, row):
    (area, at, layout, way), number = frame.stack[-2:]
    if not row[1] <= number <= row[2]:
        raise Trap("index")
    member = layout.parts[0]
    frame.stack[-2:] = [(area, at + (number - row[1]) * member.size, member, way)]


def do_aim(engine, frame, row):
    number = frame.stack[-1]
    want_piece(engine, number)
    area, layout = engine.areas[number]
    frame.stack[-1] = (area, 0, layout, ())


def want_piece(engine, number):
    if number == 0:
        raise Trap("nil")
    if number not in engine.areas:
        raise Trap("gone")


def do_window(engine, frame, row):
    frame.stack[-1] = window_place(frame.stack[-1][0])


def do_load(engine, frame, row):
    place = frame.stack[-1]
    value = cells_to_read(place)[place[1]]
    if value is None:
        raise Trap("unset")
    frame.stack[-1] = value


def do_store(engine, frame, row):
    place, value = frame.stack[-2:]
    cells_to_put(place)[place[1]] = value
    del frame.stack[-2:]


def do_move(engine, frame, row):
    place, other = frame.stack[-2:]
    given = copy_of(other)
    put_cells(place, given)
    del frame.stack[-2:]


def do_unset(engine, frame, row):
    place = frame.stack[-1]
    put_cells(place, fresh_cells(place[2]))
    frame.stack.pop()


def do_drop(engine, frame, row):
    frame.stack.pop()


def do_dup(engine, frame, row):
    frame.stack.append(frame.stack[-1])


def do_new(engine, frame, row):
    """Takes a piece: that there is room for it is looked at ahead of where its number is put."""
    place = frame.stack[-1]
    layout = engine.parts.aims[place[2].aims[0]]
    if not [first for first, size in engine.heap.free if size >= layout.cells]:
        raise Trap("full")
    cells = cells_to_put(place)
    number = engine.heap.take(layout.cells)
    cells[place[1]] = number
    engine.areas[number] = (Area(fresh_cells(layout), None, ("piece", number)), layout)
    frame.stack.pop()


def do_gone(engine, frame, row):
    number = frame.stack[-1]
    want_piece(engine, number)
    engine.heap.give(number)
    area = engine.areas[number][0]
    area.is_gone = True
    del engine.areas[number]
    frame.stack.pop()


DATA_DEEDS = {
    "num": do_num, "truth": do_truth, "sign": do_sign, "set": do_set, "nil": do_nil, "string": do_string,
    "place": do_place, "handed": do_handed, "bind": do_bind, "field": do_field, "arm": do_arm, "become": do_become,
    "lives": do_lives, "index": do_index, "aim": do_aim, "window": do_window, "load": do_load, "store": do_store,
    "move": do_move, "unset": do_unset, "drop": do_drop, "dup": do_dup, "new": do_new, "gone": do_gone,
}
