"""Pieces (section 11)."""

import random
import unittest

from begunended.errors import BadOffset, BadPiece, BadRoom, BadSize, Trap
from begunended.files import File
from begunended.heap import Heap
from tests.common import Refusing


def state(heap):
    return heap.room, heap.numbered, heap.pieces, heap.free


class HeapTest(Refusing, unittest.TestCase):
    def refused_and_unchanged(self, error, value, heap, deed, *given):
        before = state(heap)
        self.refused(error, value, getattr(heap, deed), *given)
        self.assertEqual(state(heap), before)

    def test_rooms(self):
        for room in (1, 2, 2000):
            self.assertEqual(state(Heap(room=room)), (room, 0, (), ((0, room),)))
        for room in (0, 2001, -1, True, False, None, "1", (1,), [1], 10 ** 9):
            self.refused(BadRoom, room, Heap, room)

    def test_taking(self):
        heap = Heap(10)
        self.assertEqual([heap.take(3), heap.take(1), heap.take(size=6)], [1, 2, 3])
        self.assertEqual(state(heap), (10, 3, ((1, 0, 3), (2, 3, 1), (3, 4, 6)), ()))
        self.refused_and_unchanged(Trap, "full", heap, "take", 1)

    def test_the_first_stretch_that_is_long_enough(self):
        heap = Heap(20)
        for size in (2, 3, 5, 1, 9):
            heap.take(size)
        for number in (1, 3, 5):
            self.assertIsNone(heap.give(number))
        self.assertEqual(heap.free, ((0, 2), (5, 5), (11, 9)))
        self.assertEqual([heap.take(3), heap.take(2), heap.take(2), heap.take(5)], [6, 7, 8, 9])
        self.assertEqual(heap.pieces, ((2, 2, 3), (4, 10, 1), (6, 5, 3), (7, 0, 2), (8, 8, 2), (9, 11, 5)))
        self.assertEqual(heap.free, ((16, 4),))
        self.refused_and_unchanged(Trap, "full", heap, "take", 5)

    def test_stretches_become_one_again(self):
        for sequence in ((1, 2, 3), (3, 2, 1), (1, 3, 2), (2, 1, 3)):
            heap = Heap(9)
            for _ in range(3):
                heap.take(3)
            for number in sequence:
                heap.give(number)
            self.assertEqual(heap.free, ((0, 9),))
            self.assertEqual(heap.take(9), 4)
        heap = Heap(9)
        for _ in range(3):
            heap.take(3)
        heap.give(1)
        heap.give(3)
        self.assertEqual(heap.free, ((0, 3), (6, 3)))
        self.refused_and_unchanged(Trap, "full", heap, "take", 4)
        heap.give(2)
        self.assertEqual(heap.free, ((0, 9),))

    def test_numbers_are_never_used_twice(self):
        heap = Heap(5)
        for number in range(1, 50):
            self.assertEqual(heap.take(5), number)
            self.refused_and_unchanged(Trap, "full", heap, "take", 1)
            heap.give(number)
        self.assertEqual((heap.numbered, heap.pieces), (49, ()))
        self.assertEqual(heap.take(1), 50)

    def test_bad_sizes(self):
        heap = Heap(5)
        for size in (0, -1, 2001, True, None, "1", (1,), [2]):
            self.refused_and_unchanged(BadSize, size, heap, "take", size)
        for size in (6, 2000):
            self.refused_and_unchanged(Trap, "full", heap, "take", size)

    def test_giving(self):
        heap = Heap(5)
        heap.take(2)
        heap.take(2)
        self.refused_and_unchanged(Trap, "nil", heap, "give", 0)
        for number in (3, -1, True, False, None, "1", (1,), 1000):
            self.refused_and_unchanged(BadPiece, number, heap, "give", number)
        heap.give(number=1)
        self.refused_and_unchanged(Trap, "gone", heap, "give", 1)
        self.assertEqual(state(heap), (5, 2, ((2, 2, 2),), ((0, 2), (4, 1))))

    def test_cells(self):
        heap = Heap(9)
        for _ in range(3):
            heap.take(3)
        heap.give(1)
        self.assertEqual([heap.cell(2, 0), heap.cell(2, 2), heap.cell(number=3, offset=1)], [3, 5, 7])
        self.refused_and_unchanged(Trap, "nil", heap, "cell", 0, None)
        for number in (4, -1, True, False, None, "2", (2,)):
            self.refused_and_unchanged(BadPiece, number, heap, "cell", number, None)
        self.refused_and_unchanged(Trap, "gone", heap, "cell", 1, None)
        for offset in (3, -1, True, False, None, "1", (0,), 2000):
            self.refused_and_unchanged(BadOffset, offset, heap, "cell", 2, offset)

    def test_is_held(self):
        heap = Heap(9)
        heap.take(3)
        heap.take(3)
        heap.give(1)
        self.assertIs(heap.is_held(0), False)
        self.assertIs(heap.is_held(1), False)
        self.assertIs(heap.is_held(number=2), True)
        for number in (3, -1, True, False, None, "2", (2,)):
            self.refused_and_unchanged(BadPiece, number, heap, "is_held", number)
        self.refused_and_unchanged(BadPiece, 1, Heap(9), "is_held", 1)

    def test_copies(self):
        heap = Heap(9)
        heap.take(3)
        heap.take(3)
        other = heap.copied()
        self.assertIsInstance(other, Heap)
        self.assertEqual(other, heap)
        self.assertEqual(state(other), state(heap))
        other.give(1)
        self.assertEqual(heap.pieces, ((1, 0, 3), (2, 3, 3)))
        self.assertEqual(other.take(1), 3)
        self.assertEqual(heap.numbered, 2)
        heap.give(2)
        self.assertEqual(other.pieces, ((2, 3, 3), (3, 0, 1)))

    def test_equal(self):
        one, other = Heap(9), Heap(9)
        self.assertTrue(one == other)
        self.assertFalse(one == Heap(8))
        one.take(2)
        self.assertFalse(one == other)
        other.take(2)
        self.assertTrue(one == other)
        one.give(1)
        other.give(1)
        self.assertTrue(one == other)
        self.assertTrue(one != Heap(9))
        for value in (9, None, "9", (9, 1, ()), state(one), File("text", None)):
            self.assertFalse(one == value)
            self.assertTrue(one != value)

    def test_against_single_cells(self):
        rolls = random.Random(5)
        heap, cells, taken = Heap(60), [0] * 60, 0
        for _ in range(600):
            held = sorted(set(cells) - {0})
            if held and rolls.random() < 0.45:
                number = rolls.choice(held)
                heap.give(number)
                cells = [0 if cell == number else cell for cell in cells]
            else:
                size = rolls.randint(1, 12)
                begins = [at for at in range(61 - size) if not any(cells[at:at + size])]
                if begins:
                    taken += 1
                    self.assertEqual(heap.take(size), taken)
                    cells[begins[0]:begins[0] + size] = [taken] * size
                else:
                    self.refused_and_unchanged(Trap, "full", heap, "take", size)
            told = [0] * 60
            for number, first, size in heap.pieces:
                told[first:first + size] = [number] * size
            self.assertEqual(told, cells)
            self.assertEqual(heap.numbered, taken)
            self.assertEqual(sum(size for _, size in heap.free), cells.count(0))


if __name__ == "__main__":
    unittest.main()
