"""How many calls of Python's functions answers take: what is found once is not found anew, and grows no faster than texts.

Running time is not specified; so the bounds are wide ones, above what these calls are now.
"""

import sys
import unittest

from begunended.checking import checked
from begunended.compiling import compiled
from begunended.desk import Desk
from begunended.edits import anew
from begunended.errors import StageError
from begunended.passes import bettered
from begunended.program import Program
from begunended.stops import numbers, stops
from begunended.surely import all_claims, sure_rows
from begunended.units import Unit

PASSES = ("looks", "tests", "folded", "unread", "sums", "pairs", "again", "lines", "jumps", "dead")


def many_calls(function, *given):
    """How many functions of Python's are called, and what comes of it."""
    found = []

    def note(frame, event, argument):
        if event == "call":
            found.append(1)

    ahead = sys.getprofile()
    sys.setprofile(note)
    try:
        told = function(*given)
    except StageError as error:
        told = error.value
    finally:
        sys.setprofile(ahead)
    return len(found), told


def wide_text(statements):
    """A program with two procedures, each block with forty names and so many statements."""
    names = ", ".join([f"v{number}" for number in range(39)])
    begin = f"var a, {names[:-5]}: integer; "
    done = "begin " + "a := 1; ; " * (statements // 2) + "end"
    return f"program p; {begin}procedure q; {begin}{done}; procedure r; {begin}{done}; {done}."


def loops(many):
    """A unit of so many loops with ifs."""
    rows = []
    for number in range(0, 3 * many, 3):
        rows += [
            "place 0 1", "num 9", "store", f"label {number}", "place 0 1", "load", "num 0", "gt", f"unless {number + 1}", "line 3", "place 0 1",
            "place 0 1", "load", "look -5 50", "num 1", "sub", "store", "place 0 1", "load", "odd", f"unless {number + 2}", "place 0 2", "num 2",
            "num 3", "add", "store", f"label {number + 2}", f"jump {number}", f"label {number + 1}"]
    return "\n".join(["proc p0 -", "takes", "gives -", "names <text> n n", "files output", "work 9", *rows, "leave", "end"])


ASKS = (compiled, stops, numbers, lambda program: anew(program, program), lambda program: Desk(program, ()))


class ProgramsTest(unittest.TestCase):
    def test_first_and_again(self):
        text = wide_text(50)
        many, program = many_calls(Program, text)
        self.assertLess(many, 11 * len(text))
        first = [many_calls(ask, program)[0] for ask in ASKS]
        self.assertLess(sum(first), 5 * len(text))
        again = [many_calls(ask, program)[0] for ask in ASKS]
        self.assertLess(sum(again), sum(first) / 4)
        self.assertLess(again[0], 20)

    def test_in_another_sequence(self):
        text = wide_text(50)
        for asks in (ASKS[::-1], ASKS[1:] + ASKS[:1], ASKS[3:] + ASKS[:3]):
            program = Program(text)
            self.assertLess(sum([many_calls(ask, program)[0] for ask in asks]), 5 * len(text))

    def test_too_long(self):
        text = wide_text(90)
        program = Program(text)
        first = [many_calls(ask, program) for ask in ASKS]
        self.assertEqual([told for _, told in first[:2]], [0, 0])
        self.assertLess(sum([many for many, _ in first]), 5 * len(text))
        self.assertLess(sum([many_calls(ask, program)[0] for ask in ASKS]), 1000)


class UnitsTest(unittest.TestCase):
    def test_first_and_again(self):
        text = loops(6)
        many, unit = many_calls(Unit, text)
        self.assertLess(many, 1500)
        asks = (checked, all_claims, lambda unit: sure_rows(unit, "p0"))
        first = [many_calls(ask, unit)[0] for ask in asks]
        again = [many_calls(ask, unit)[0] for ask in asks]
        self.assertLess(first[0] + first[1], 21000)
        self.assertLess(first[2], 700)
        self.assertLess(again[0] + again[1], 30)
        # The claims that are known serve the first pass.
        for word in PASSES[:4]:
            self.assertLess(many_calls(bettered, unit, (word,))[0], 1500, word)
        self.assertLess(many_calls(bettered, Unit(text), PASSES[:4])[0], 45000)

    def test_passes(self):
        for passes in (PASSES, PASSES[::-1], ("jumps",), ("lines", "dead")):
            one, other = [many_calls(bettered, Unit(loops(many)), passes)[0] for many in (3, 6)]
            self.assertLess(other, 2.6 * one + 500, passes)

    def test_rows_that_are_alike_are_read_once(self):
        one, other = [many_calls(Unit, "\n".join(
            ["proc p0 -", "takes", "gives -", "names", "files", "work 9", *["num 1", "drop"] * many, "leave", "end"]))[0] for many in (2, 90)]
        self.assertLess(other, one + 30)


if __name__ == "__main__":
    unittest.main()
