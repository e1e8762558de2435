"""Errors (sections 2 and 22): all names, what they derive from, the value that they keep."""

import unittest

from begunended import errors
from begunended.heap import Heap

NAMES = (
    "StageError, BadToken, BadSyntax, BadName, BadKind, Wide, TooLong, BadValue, BadInputs, BadFuel, BadNumber,"
    " BadNumbers, NoPlace, Caught, BadSet, BadSaying, BadSayings, BadWorld, NoWorld, Trap, BadSort, NotText, BadWidth,"
    " BadText, BadRoom, BadSize, BadPiece, BadOffset, BadUnit, BadLayout, BadWords, BadUnits, Clash, Missing, Unfit,"
    " NoProc, NoRow, BadShape, NotWhole, NotLet, NoFrame, BadPasses, BadSeam, NoStop, BadLines, BadLine, Long, Ended,"
    " NothingAhead, NothingToUndo, NothingToRedo, NoTrial, BadJournal").split(", ")


class ErrorsTest(unittest.TestCase):
    def test_all_names_are_there_and_no_other_errors(self):
        offered = [name for name in vars(errors) if isinstance(getattr(errors, name), type)]
        self.assertEqual(sorted(offered), sorted(NAMES))
        for name in NAMES:
            self.assertEqual(getattr(errors, name).__module__, "begunended.errors")
            self.assertEqual(getattr(errors, name).__name__, name)

    def test_all_derive_directly_from_stage_error(self):
        self.assertEqual(errors.StageError.__bases__, (ValueError,))
        for name in NAMES[1:]:
            self.assertEqual(getattr(errors, name).__bases__, (errors.StageError,), name)

    def test_each_keeps_any_value(self):
        values = (
            0, -5, 2147483648, True, False, None, "", "words", (), (1, (2, "x")), [], [1, [None]], {}, {"a": [1]},
            {(1, 2): {}}, Heap(3), errors.Wide(12))
        for name in NAMES:
            for value in values:
                error = getattr(errors, name)(value)
                self.assertIs(error.value, value)
                with self.assertRaises(errors.StageError):
                    raise error

    def test_one_argument_alone(self):
        for name in NAMES:
            self.assertRaises(TypeError, getattr(errors, name))
            self.assertRaises(TypeError, getattr(errors, name), 1, 2)


if __name__ == "__main__":
    unittest.main()
