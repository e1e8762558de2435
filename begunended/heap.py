"""Heaps: cells, and the pieces of them that are taken."""

from begunended.errors import BadOffset, BadPiece, BadRoom, BadSize, Trap
from begunended.values import is_integer

MOST = 2000


class Heap:
    """A heap of so many cells; held are the pieces as (first cell, size) by their numbers."""

    def __init__(self, room):
        if not is_integer(room) or not 1 <= room <= MOST:
            raise BadRoom(room)
        self._room = room
        self._numbered = 0
        self._held = {}

    @property
    def room(self):
        return self._room

    @property
    def numbered(self):
        """How many pieces were ever taken."""
        return self._numbered

    @property
    def pieces(self):
        """The number, first cell and size of each piece."""
        return tuple([(number, *self._held[number]) for number in sorted(self._held)])

    @property
    def free(self):
        """The first cell and size of each longest stretch of cells of no piece."""
        found = []
        cell = 0
        for first, size in sorted(list(self._held.values())):
            if first > cell:
                found.append((cell, first - cell))
            cell = first + size
        if cell < self._room:
            found.append((cell, self._room - cell))
        return tuple(found)

    def take(self, size):
        """The number of a new piece, at the lower end of the first free stretch that is long enough."""
        if not is_integer(size) or not 1 <= size <= MOST:
            raise BadSize(size)
        ends = [first for first, length in self.free if length >= size]
        if not ends:
            raise Trap("full")
        self._numbered += 1
        self._held[self._numbered] = (ends[0], size)
        return self._numbered

    def give(self, number):
        """Gives a piece back."""
        self._want_held(number)
        del self._held[number]

    def cell(self, number, offset):
        """The cell with this offset of a piece."""
        self._want_held(number)
        first, size = self._held[number]
        if not is_integer(offset) or not 0 <= offset < size:
            raise BadOffset(offset)
        return first + offset

    def is_held(self, number):
        """Whether this is the number of a piece that was not given back."""
        return not self._is_nil(number) and number in self._held

    def copied(self):
        """A heap alike, by itself."""
        other = Heap(self._room)
        other._numbered = self._numbered
        other._held = {number: self._held[number] for number in self._held}
        return other

    def __eq__(self, other):
        return isinstance(other, Heap) and self._state() == other._state()

    def _state(self):
        return self._room, self._numbered, self.pieces

    def _is_nil(self, number):
        """Whether this is no piece but 0: BadPiece for what is no number of one."""
        if not is_integer(number) or not 0 <= number <= self._numbered:
            raise BadPiece(number)
        return number == 0

    def _want_held(self, number):
        if self._is_nil(number):
            raise Trap("nil")
        if number not in self._held:
            raise Trap("gone")
