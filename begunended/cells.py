"""Cells: how many a layout has."""

from begunended.errors import BadLayout
from begunended.layoutforms import is_layout, layout_read


def cells_of(layout):
    """How many cells a layout has."""
    found = layout_read(layout) if isinstance(layout, str) else None
    if not is_layout(found):
        raise BadLayout(layout)
    return found.cells
