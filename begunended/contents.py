"""Contents: what lies in cells, told by layouts, and the cells that told values would lie in."""

from begunended.errors import BadInputs, Trap
from begunended.files import are_contents
from begunended.setreading import bits_of, ordinals_of
from begunended.shown import is_shown_integer
from begunended.storage import cells_to_read
from begunended.values import is_integer, is_sign

OUTPUT = "output"


def contents_of(layout, cells, at, is_thing):
    """What lies in the cells of a layout that begin here; in a thing of a file pointers are told by words."""
    if layout.form == "array":
        member = layout.parts[0]
        return tuple([contents_of(member, cells, at + row * member.size, is_thing) for row in range(layout.many)])
    if layout.form == "record":
        return record_contents(layout, cells, at, is_thing)
    value = cells[at]
    if is_thing and value is not None and layout.text.startswith("^"):
        return "nil" if value == 0 else "piece"
    return cell_contents(layout.text, value)


def cell_contents(sort, value):
    """What lies in one cell: a pointer as the number of its piece."""
    return ordinals_of(value) if sort == "s" and value is not None else value


def record_contents(layout, cells, at, is_thing):
    """The tuple of what lies in the pieces; of arms the living one's number, and the tuple of its pieces."""
    found = []
    for part, offset in zip(layout.parts, layout.offsets):
        begin = at + offset
        if part.form != "arms":
            found.append(contents_of(part, cells, begin, is_thing))
        else:
            arm = cells[begin]
            inner = None if arm is None else part.parts[arm]
            is_bare = inner is None or inner.form == "nothing"
            found = [*found, arm, () if is_bare else record_contents(inner, cells, begin + 1, is_thing)]
    return tuple(found)


def place_contents(place):
    """What lies in a place, or the word that tells why it cannot be looked at; a file's standing and contents."""
    area, at, layout, _ = place
    if layout.form == "file":
        return area.file.standing, file_contents(area)
    if area.box is not None:
        return "window"
    try:
        cells = cells_to_read(place)
    except Trap as trap:
        return trap.value
    return contents_of(layout, cells, at, False)


def file_contents(box):
    """The contents of a file, as it is now; None if it is unused."""
    things = box.file.all_things
    if things is None or box.is_text_box:
        return things
    return tuple([contents_of(box.member, cells, 0, True) for cells in things])


def inputs_read(unit, inputs):
    """The dict of inputs of a unit, things as tuples of their cells: BadInputs for what are none."""
    if not isinstance(inputs, tuple):
        raise BadInputs(inputs)
    program = unit.proc_table[unit.procs[0]]
    layouts = dict(list(zip(program.outside_names, program.things)))
    given = {}
    for row in inputs:
        if not isinstance(row, tuple) or len(row) != 2 or not isinstance(row[0], str):
            raise BadInputs(inputs)
        name, contents = row
        if name not in layouts or name == OUTPUT or name in given:
            raise BadInputs(inputs)
        given[name] = file_cells(unit.table.of(layouts[name]), contents)
        if given[name] is None:
            raise BadInputs(inputs)
    return given


def file_cells(layout, contents):
    """The contents of a file of this layout as it keeps them, None for what are none."""
    if not layout.parts:
        return contents if are_contents("text", contents) else None
    if not isinstance(contents, tuple):
        return None
    things = [contents_cells(layout.parts[0], value) for value in contents]
    return None if None in things else tuple([tuple(cells) for cells in things])


def contents_cells(layout, value):
    """The cells in which a value of this layout lies, without unset ones and pointers; None if it is none."""
    if layout.form == "cell":
        return one_cell(layout.text, value)
    if not isinstance(value, tuple):
        return None
    if layout.form == "array":
        return all_cells([layout.parts[0]] * layout.many, value)
    return record_cells(layout, value)


def one_cell(sort, value):
    """The cell of a number, truth, sign or set, as a list."""
    if sort == "s":
        bits = bits_of(value)
        return None if bits is None else [bits]
    if sort == "n":
        return [value] if is_shown_integer(value) else None
    if sort == "t":
        return [value] if isinstance(value, bool) else None
    return [value] if sort == "c" and is_sign(value) else None


def all_cells(layouts, values):
    """The cells of as many values as there are layouts, one behind the other."""
    if len(layouts) != len(values):
        return None
    cells = []
    for layout, value in zip(layouts, values):
        found = contents_cells(layout, value)
        if found is None:
            return None
        cells.extend(found)
    return cells


def record_cells(layout, value):
    """The cells of a record, whose last piece may be arms."""
    last = layout.parts[-1]
    if last.form != "arms":
        return all_cells(layout.parts, value)
    if len(value) < 2:
        return None
    cells = all_cells(layout.parts[:-1], value[:-2])
    found = arm_cells(last, value[-2], value[-1])
    return None if cells is None or found is None else cells + found


def arm_cells(layout, arm, value):
    """The cells of arms, of which this one lives."""
    if not is_integer(arm) or not 0 <= arm < len(layout.parts) or not isinstance(value, tuple):
        return None
    inner = layout.parts[arm]
    cells = all_cells([], value) if inner.form == "nothing" else record_cells(inner, value)
    return None if cells is None else [arm] + cells + [None for _ in range(layout.size - 1 - len(cells))]
