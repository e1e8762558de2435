"""Where values lie while code runs: areas of cells, files with their windows, and places in them.

A place is a tuple: the area, where in its cells the place begins, the layout there, and the way of
arms that it was found through: pairs of where the living arm is told, and the arm. Cells that are
unset hold None, and so does what tells the living arm, if none lives. Truths lie as bools, signs as
strings, sets as integers with a bit for each member.

An origin tells where places in an area begin: ("name", number of the frame, number of the thing),
("piece", number), ("window", frame, thing), ("string",).
"""

from begunended.errors import Trap
from begunended.files import WRITING, File
from begunended.layoutforms import Layout


class Area:
    """Cells that lie together: a thing, a piece, signs that were told, or the window of a file."""

    def __init__(self, cells, box, origin):
        self.cells = cells
        self.box = box
        self.origin = origin
        self.is_gone = False


class FileBox:
    """A file of a frame, its window, and whether it was ever rewritten."""

    def __init__(self, layout, contents, origin):
        self.box_layout = layout
        self.origin = origin
        self.is_text_box = not layout.parts
        self.file = File("text" if self.is_text_box else "things", contents)
        self.member = Layout("cell", "c", []) if self.is_text_box else layout.parts[0]
        self.window = Area(fresh_cells(self.member), self, ("window", *origin[1:]))
        self.was_rewritten = False

    def twin(self):
        """A file alike, whose window is not set yet."""
        other = FileBox(self.box_layout, None, self.origin)
        other.file = self.file.copied()
        other.was_rewritten = self.was_rewritten
        return other

    def cells_seen(self):
        """The cells of the window, or those of the thing that is next."""
        if self.file.standing == WRITING:
            return self.window.cells
        thing = self.file.seen()
        return (thing,) if self.is_text_box else thing

    def rewrite(self):
        self.file.rewrite()
        self.was_rewritten = True
        self.clear_window()

    def clear_window(self):
        window = self.window
        window.cells = fresh_cells(self.member)

    def put(self):
        """Puts what is in the window behind all things."""
        if self.file.standing != WRITING:
            raise Trap("file")
        cells = self.window.cells
        if self.member.form == "cell" and cells[0] is None:
            raise Trap("unset")
        self.file.fill(cells[0] if self.is_text_box else tuple(cells))
        self.file.put()
        self.clear_window()


def fresh_cells(layout):
    """Cells of a layout, all of them unset."""
    return [None for _ in range(layout.size)]


def fresh_place(layout, origin):
    """The place of a new thing of this layout, which may be a file."""
    if layout.form == "file":
        return FileBox(layout, None, origin), 0, layout, ()
    return Area(fresh_cells(layout), None, origin), 0, layout, ()


def window_place(box):
    return box.window, 0, box.member, ()


def cells_to_read(place):
    """The cells in which a place lies, if it can be looked at."""
    area, _, _, way = place
    if area.is_gone:
        raise Trap("gone")
    cells = area.cells if area.box is None else area.box.cells_seen()
    want_living(cells, way)
    return cells


def cells_to_put(place):
    """The cells in which a place lies, if it can be put into."""
    area, _, _, way = place
    if area.is_gone:
        raise Trap("gone")
    if area.box is not None and area.box.file.standing != WRITING:
        raise Trap("file")
    want_living(area.cells, way)
    return area.cells


def want_living(cells, way):
    """Wants all arms on the way of a place to live."""
    for at, arm in way:
        if cells[at] != arm:
            raise Trap("arm")


def copy_of(place):
    """The cells of a place as they are now."""
    cells = cells_to_read(place)
    return list(cells[place[1]:place[1] + place[2].size])


def put_cells(place, given):
    """Puts cells into a place of the same layout."""
    cells = cells_to_put(place)
    cells[place[1]:place[1] + place[2].size] = given


def become(place, arm):
    """Makes an arm of a place of arms live, if it does not."""
    cells = cells_to_put(place)
    begin = place[1]
    if cells[begin] != arm:
        cells[begin:begin + place[2].size] = fresh_cells(place[2])
        cells[begin] = arm


def piece_of(place, number):
    """The place of a piece of a record."""
    area, at, layout, way = place
    return area, at + layout.offsets[number], layout.parts[number], way


def arm_of(place, arm):
    """The place of an arm that lives."""
    area, at, layout, way = place
    if cells_to_read(place)[at] != arm:
        raise Trap("arm")
    return area, at + 1, layout.parts[arm], (*way, (at, arm))
