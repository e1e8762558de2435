"""Orders by which the next row is another one: jumps, calls, ends of procs; and steps."""

from begunended.errors import Trap
from begunended.frames import Frame, frame_out
from begunended.storage import Area, copy_of, fresh_place

MOST_FRAMES = 200


def do_step(engine, frame, row):
    """Begins a statement, unless so many as may be were begun."""
    if engine.begun >= engine.fuel:
        engine.halted = ("on",)
        frame.at -= 1
        return
    engine.begun += 1
    frame.line = row[1]


def do_line(engine, frame, row):
    frame.line = row[1]


def do_label(engine, frame, row):
    """A label does nothing."""


def do_jump(engine, frame, row):
    frame.at = frame.proc.labels[row[1]] + 1


def do_unless(engine, frame, row):
    if not frame.stack.pop():
        frame.at = frame.proc.labels[row[1]] + 1


def do_table(engine, frame, row):
    at = frame.stack[-1] - row[1]
    if not 0 <= at < len(row[2]) or row[2][at] is None:
        raise Trap("case")
    frame.stack.pop()
    frame.at = frame.proc.labels[row[2][at]] + 1


def do_choose(engine, frame, row):
    """A case with more constants than a unit has ways for."""
    labels = [label for number, label in row[1] if number == frame.stack[-1]]
    if not labels:
        raise Trap("case")
    frame.stack.pop()
    frame.at = frame.proc.labels[labels[0]] + 1


def do_call(engine, frame, row):
    proc = engine.procs[row[1]]
    enter(engine, frame, proc, frame_out(frame, frame.proc.depth - proc.depth + 1))


def do_callh(engine, frame, row):
    many = engine.parts.handed_takes[row[1]]
    handed, link = frame.stack[-1 - many]
    enter(engine, frame, handed, link)
    frame.stack.pop()


def do_hand(engine, frame, row):
    proc = engine.procs[row[1]]
    frame.stack.append((proc, frame_out(frame, frame.proc.depth - proc.depth + 1)))


def enter(engine, frame, proc, link):
    """Begins a frame of a proc, with what it takes from this frame's workspace."""
    if len(engine.entered) >= MOST_FRAMES:
        raise Trap("deep")
    begin = len(frame.stack) - len(proc.takes)
    newest = engine.many_frames + 1
    made = []
    for number, (layout, is_own) in enumerate(proc.things):
        word = proc.takes[number] if number < len(proc.takes) else None
        if word == "cell":
            made.append((Area([frame.stack[begin + number]], None, ("name", newest, number)), 0, layout, ()))
        elif word == "copied":
            cells = copy_of(frame.stack[begin + number])
            made.append((Area(cells, None, ("name", newest, number)), 0, layout, ()))
        elif word is not None:
            made.append(frame.stack[begin + number])
        else:
            made.append(fresh_place(layout, ("name", newest, number)) if is_own else None)
    del frame.stack[begin:]
    engine.many_frames = newest
    engine.entered.append(Frame(proc, link, made, newest))


def do_leave(engine, frame, row):
    result = None
    if frame.proc.result is not None:
        result = frame.things[frame.proc.result][0].cells[0]
        if result is None:
            raise Trap("unset")
    engine.entered.pop()
    if not engine.entered:
        engine.halted = ("done",)
    elif result is not None:
        engine.entered[-1].stack.append(result)


def do_far(engine, frame, row):
    target = frame_out(frame, row[1])
    while engine.entered[-1].number != target.number:
        engine.entered.pop()
    target.stack = []
    target.at = target.proc.labels[row[2]] + 1


def do_trap(engine, frame, row):
    raise Trap(row[1])


FLOW_DEEDS = {
    "step": do_step, "line": do_line, "label": do_label, "jump": do_jump, "unless": do_unless, "table": do_table,
    "choose": do_choose, "call": do_call, "callh": do_callh, "hand": do_hand, "leave": do_leave, "far": do_far,
    "trap": do_trap,
}
