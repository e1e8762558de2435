"""Point 21: the desk: its deeds, what is told at each stop, undo and redo, trials, copies, equality, errors."""

import unittest

from begunended.desk import Desk
from begunended.errors import (
    BadInputs, BadKind, BadLine, BadLines, BadSyntax, BadText, Ended, Long, NoPlace, NoTrial, NothingAhead, NothingToRedo, NothingToUndo,
    TooLong)
from begunended.journals import journal
from begunended.program import Program
from begunended.running import run, seen
from tests.common import Refusing

SUMS = Program("program a(output);\nvar i, s: integer;\nbegin s := 0;\n  for i := 1 to 4 do s := s + i * i;\n  writeln(s: 3) end.")
CALLS = Program("""program c(output);
label 9;
var n: integer;
procedure one(d: integer);
begin
  n := n + d;
  if d > 1 then
    one(d - 1);
  if n > 99 then goto 9;
  n := n + 100
end;
begin
  n := 0;
  one(3);
  n := 1;
9: writeln(n: 4)
end.""")
LOOP = Program("program l; var b: boolean; begin b := true; while b do b := true end.")
VALUES = (None, True, False, "1", 1.5, (1,), [1], {}, "", ())


def told(desk):
    """All that a desk tells."""
    names = {}
    for name in ("i", "s", "n", "d", "b", "output"):
        try:
            names[name] = desk.value(name)
        except NoPlace:
            pass
    return (desk.program.text, desk.marked, desk.stop, desk.done, len(desk), desk.where(), desk.ending(), desk.callers(), desk.written(),
        names)


class DeedsTest(Refusing, unittest.TestCase):
    def test_the_example(self):
        desk = Desk(SUMS, ())
        found = [desk.mark(4), desk.go(), desk.go(), desk.where(), desk.value("i"), desk.callers(), desk.undo(), desk.stop, desk.done]
        self.assertEqual(found, [None, None, None, (4, 22), 1, (("a", 4),), None, 3, 2])

    def test_at_first(self):
        desk = Desk(program=SUMS, inputs=())
        self.assertEqual((desk.program, desk.marked, desk.stop, desk.done, len(desk)), (SUMS, (), 1, 0, 5))
        self.assertEqual((desk.where(), desk.ending(), desk.callers(), desk.written()), ((3, 1), None, (("a", 3),), ()))

    def test_step(self):
        desk = Desk(CALLS, ())
        number = 1
        while desk.ending() is None:
            stop = seen(CALLS, (), number)
            self.assertEqual((desk.stop, desk.where(), desk.done), (number, stop[1:3], number - 1))
            self.assertEqual(tuple([name for name, _ in desk.callers()][::-1]), stop[3])
            self.assertEqual(desk.callers()[0][1], desk.where()[0])
            for name, value in stop[4]:
                self.assertEqual(desk.value(name), value)
            if number > 1:
                self.assertEqual(desk.written(), run(CALLS, (), number - 1)[0])
            self.assertIsNone(desk.step())
            number += 1
        self.assertEqual(seen(CALLS, (), number), ("done",))
        self.assertEqual((desk.stop, desk.where(), desk.ending(), desk.callers()), (number, None, ("done",), ()))
        self.assertEqual(desk.written(), (("output", " 106\n"),))
        self.refused(NoPlace, "n", desk.value, "n")
        for deed in (desk.step, desk.over, desk.go):
            self.refused(Ended, ("done",), deed)
        self.assertEqual(desk.done, number - 1)
        desk.back()
        self.assertEqual((desk.where(), desk.value("n")), ((16, 4), 106))

    def test_callers(self):
        desk = Desk(CALLS, ())
        deepest = desk.callers()
        while len(deepest) < 4:
            desk.step()
            deepest = desk.callers()
        self.assertEqual(deepest, (("one", 5), ("one", 8), ("one", 8), ("c", 14)))

    def test_over(self):
        desk = Desk(CALLS, ())
        stops = []
        for _ in range(20):
            if desk.ending() is not None:
                break
            stops.append(desk.where())
            desk.over()
        # Over the call of one: its goto leaves it, and the first stop behind is the labelled statement.
        self.assertEqual(stops, [(12, 1), (13, 3), (14, 3), (16, 4)])
        self.assertEqual((desk.ending(), desk.done), (("done",), 4))

    def test_over_in_frames(self):
        text = CALLS.text.replace("if n > 99 then goto 9;", "if n > 999 then goto 9;")
        desk = Desk(Program(text), ())
        for _ in range(3):
            desk.step()
        self.assertEqual((desk.where(), len(desk.callers())), ((5, 1), 2))
        found = []
        while desk.ending() is None and desk.stop < 90:
            desk.over()
            found.append((desk.where(), len(desk.callers())))
        # The calls within are gone over; left, the frame is followed by the stop behind its call.
        self.assertEqual(found, [((6, 3), 2), ((7, 3), 2), ((8, 5), 2), ((9, 3), 2), ((10, 3), 2), ((15, 3), 1), ((16, 4), 1), (None, 0)])

    def test_over_into_a_new_frame_of_the_same_routine(self):
        program = Program("program r;\nvar n: integer;\nprocedure q;\nbegin\nn := n + 1 end;\nbegin\nn := 0;\nq; q;\nn := 5 end.")
        desk = Desk(program, ())
        for _ in range(4):
            desk.step()
        self.assertEqual((desk.where(), desk.callers()), ((5, 1), (("q", 5), ("r", 8))))
        desk.over()
        self.assertEqual((desk.where(), desk.callers()), ((8, 4), (("r", 8),)))

    def test_go_and_marks(self):
        desk = Desk(CALLS, ())
        desk.mark(10)
        desk.mark(6)
        self.assertEqual((desk.marked, 6 in desk, 10 in desk, 7 in desk), ((6, 10), True, True, False))
        for value in (*VALUES, 6.0, "6"):
            self.assertIs(value in desk, False)
        found = []
        while desk.ending() is None:
            desk.go()
            found.append((desk.where(), desk.value("d")) if desk.ending() is None else desk.ending())
        self.assertEqual(found, [((6, 3), 3), ((6, 3), 2), ((6, 3), 1), ((10, 3), 1), ("done",)])
        desk.mark(6)
        self.assertEqual((desk.marked, desk.mark(line=10), desk.marked), ((10,), None, ()))
        other = Desk(CALLS, ())
        other.go()
        self.assertEqual((other.ending(), other.stop, other.done), (("done",), desk.stop, 1))

    def test_wrong_lines_to_mark(self):
        desk = Desk(SUMS, ())
        for value in (0, 6, -1, *VALUES):
            self.refused(BadLine, value, desk.mark, value)
        self.assertEqual((desk.done, desk.mark(1), desk.mark(5), desk.marked), (0, None, None, (1, 5)))

    def test_back(self):
        desk = Desk(CALLS, ())
        self.refused(NothingAhead, None, desk.back)
        stops = []
        while desk.ending() is None:
            stops.append((desk.where(), desk.callers(), desk.value("n"), desk.written()))
            desk.step()
        for ahead in reversed(stops):
            desk.back()
            self.assertEqual((desk.where(), desk.callers(), desk.value("n"), desk.written()), ahead)
        self.assertEqual(desk.stop, 1)
        self.refused(NothingAhead, None, desk.back)
        self.assertEqual(desk.done, 2 * len(stops))

    def test_traps(self):
        program = Program("program t(output);\nvar a: integer;\nprocedure q;\nbegin\na := a div 0 end;\nbegin a := 4;\nwriteln(a: 1); q end.")
        desk = Desk(program, ())
        desk.go()
        self.assertEqual((desk.ending(), desk.where(), desk.callers(), desk.written()),
            (("trap", "nought", 5), None, (), (("output", "4\n"),)))
        self.refused(NoPlace, "a", desk.value, "a")
        self.refused(Ended, ("trap", "nought", 5), desk.step)
        desk.back()
        self.assertEqual((desk.where(), desk.callers()), ((5, 1), (("q", 5), ("t", 7))))
        nothing = Desk(Program("program n(input); begin end."), ())
        self.assertEqual((nothing.stop, nothing.where(), nothing.ending()), (1, (1, 19), None))
        nothing.step()
        self.assertEqual((nothing.stop, nothing.ending()), (2, ("trap", "file", 1)))

    def test_long(self):
        desk = Desk(LOOP, ())
        self.refused(Long, 2000, desk.go)
        self.assertEqual((desk.stop, desk.done), (1, 0))
        desk.mark(1)
        for _ in range(1999):
            desk.step()
        self.assertEqual((desk.stop, desk.done, desk.ending()), (2000, 2000, None))
        ahead = told(desk)
        for deed in (desk.step, desk.over, desk.go):
            self.refused(Long, 2000, deed)
            self.assertEqual(told(desk), ahead)
        desk.back()
        self.assertEqual((desk.stop, desk.step(), desk.stop), (1999, None, 2000))
        # A run that ends behind its 2000th stop is not too long.
        text = "program l;\nvar i, n: integer;\nbegin n := 0; for i := 1 to 1997 do n := i end."
        desk = Desk(Program(text), ())
        desk.go()
        self.assertEqual((desk.stop, desk.ending()), (2001, ("done",)))
        desk.back()
        self.assertEqual((desk.stop, desk.value("n")), (2000, 1996))
        longer = Desk(Program(text.replace("1997", "1998")), ())
        self.refused(Long, 2000, longer.go)
        self.assertEqual((longer.stop, longer.done), (1, 0))
        # Over a call within which the 2001st stop would come.
        calls = Desk(Program("program l;\nprocedure q; begin while true do end;\nbegin q end."), ())
        calls.step()
        self.refused(Long, 2000, calls.over)
        self.assertEqual((calls.stop, calls.where()), (2, (3, 7)))


class InputsTest(Refusing, unittest.TestCase):
    READS = Program("program r(input, output, f); var f: file of char; n: integer;\nbegin read(n);\nwriteln(n * 2: 3) end.")

    def test_inputs(self):
        desk = Desk(self.READS, (("input", "21"),))
        desk.go()
        self.assertEqual((desk.ending(), desk.written()), (("done",), (("output", " 42\n"),)))
        self.refused(TooLong, 0, Desk, Program("program p; var a: integer; begin " + "a := 1; " * 60 + "end."), 3)
        for inputs in (None, 3, (("input", 3),), (("output", "x"),), (("input", "a"), ("input", "b")), (("f", ("a",)),), (("f", ()),), [],
                (("n", ""),), (("input", "\t"),)):
            self.refused(BadInputs, inputs, Desk, self.READS, inputs)

    def test_edits_with_inputs(self):
        desk = Desk(self.READS, (("input", "21"),))
        self.refused(BadInputs, (("input", "21"),), desk.edit, 1, 3, ("program r(output); begin writeln end.",))
        self.assertEqual(desk.done, 0)
        desk.edit(3, 3, ("writeln(n * 3: 3) end.",))
        desk.go()
        self.assertEqual(desk.written(), (("output", " 63\n"),))


class EditTest(Refusing, unittest.TestCase):
    def test_edit(self):
        desk = Desk(SUMS, ())
        desk.step()
        self.assertIsNone(desk.edit(4, 4, ("  for i := 1 to 5 do s := s + i;",)))
        self.assertEqual((desk.stop, desk.where(), desk.done, desk.program.text),
            (1, (3, 1), 2, SUMS.text.replace("4 do s := s + i * i", "5 do s := s + i")))
        desk.go()
        self.assertEqual(desk.written(), (("output", " 15\n"),))
        desk.edit(first=5, last=5, lines=("  writeln(s: 5) end.",))
        self.assertEqual((desk.stop, desk.ending()), (1, None))
        desk.go()
        self.assertEqual(desk.written(), (("output", "   15\n"),))

    def test_marks(self):
        text = "program m;\nbegin\n;\n;\n;\n;\nend."
        for first, last, lines, marks in (
                (4, 4, ("{}",), (2, 3, 5, 6, 7)), (4, 5, (), (2, 3, 4, 5)), (4, 3, ("{}", "{}"), (2, 3, 6, 7, 8, 9)),
                (3, 6, (";", ";", ";"), (2, 6)), (1, 0, ("{}",), (3, 4, 5, 6, 7, 8)),
                (8, 7, ("",), (2, 3, 4, 5, 6, 7)), (2, 2, ("begin",), (3, 4, 5, 6, 7)), (7, 7, ("end.",), (2, 3, 4, 5, 6)),
                (1, 7, ("program m;", "begin", "end."), ())):
            desk = Desk(Program(text), ())
            for line in range(2, 8):
                desk.mark(line)
            desk.edit(first, last, lines)
            self.assertEqual(desk.marked, marks, (first, last, lines))
            desk.undo()
            self.assertEqual(desk.marked, (2, 3, 4, 5, 6, 7))
        self.assertEqual(len(desk), 7)

    def test_wrong_edits(self):
        desk = Desk(SUMS, ())
        desk.mark(2)
        desk.step()
        ahead = told(desk)
        self.refused(BadLines, (0, 3), desk.edit, 0, 3, 7)
        self.refused(BadLines, (7, 6), desk.edit, 7, 6, 7)
        self.refused(BadText, ["x"], desk.edit, 1, 1, ["x"])
        self.refused(BadText, ("a\nb",), desk.edit, 1, 1, ("a\nb",))
        self.refused(BadKind, (3, 12, "alike"), desk.edit, 3, 3, ("begin s := true;",))
        with self.assertRaises(BadSyntax):
            desk.edit(1, 1, ())
        self.refused(TooLong, 0, desk.edit, 3, 3, ("begin " + "s := 0; " * 60,))
        self.assertEqual(told(desk), ahead)


class UndoTest(Refusing, unittest.TestCase):
    def deeds(self, desk):
        yield desk.step, ()
        yield desk.mark, (4,)
        yield desk.over, ()
        yield desk.go, ()
        yield desk.back, ()
        yield desk.edit, (5, 5, ("  writeln(s: 4) end.",))
        yield desk.mark, (5,)
        yield desk.mark, (4,)
        yield desk.go, ()
        yield desk.go, ()

    def test_undo_and_redo_of_each_deed(self):
        desk = Desk(SUMS, ())
        found = [told(desk)]
        for deed, given in self.deeds(desk):
            self.assertIsNone(deed(*given))
            found.append(told(desk))
            self.refused(NothingToRedo, None, desk.redo)
        self.assertEqual((desk.done, desk.ending()), (10, ("done",)))
        for ahead in reversed(found[:-1]):
            self.assertIsNone(desk.undo())
            self.assertEqual(told(desk), ahead)
        self.refused(NothingToUndo, None, desk.undo)
        for behind in found[1:]:
            self.assertIsNone(desk.redo())
            self.assertEqual(told(desk), behind)
        self.refused(NothingToRedo, None, desk.redo)

    def test_another_deed_ends_what_can_be_redone(self):
        desk = Desk(SUMS, ())
        desk.step()
        desk.step()
        desk.undo()
        desk.undo()
        desk.redo()
        desk.mark(1)
        self.refused(NothingToRedo, None, desk.redo)
        self.assertEqual((desk.stop, desk.done, desk.marked), (2, 2, (1,)))
        # A deed that raises is none.
        desk.undo()
        self.refused(BadLine, 99, desk.mark, 99)
        desk.redo()
        self.assertEqual(desk.marked, (1,))


class TrialTest(Refusing, unittest.TestCase):
    def desk(self):
        desk = Desk(SUMS, ())
        desk.step()
        desk.mark(4)
        desk.step()
        desk.undo()
        return desk

    def deeds(self, desk):
        desk.undo()
        desk.go()
        desk.mark(2)
        desk.edit(1, 0, ("",))

    def test_not_kept(self):
        desk = self.desk()
        ahead = told(desk), journal(desk)
        with desk.trial() as held:
            self.assertIs(held, desk)
            self.deeds(desk)
            self.assertNotEqual(told(desk), ahead[0])
        self.assertEqual((told(desk), journal(desk)), ahead)
        # What was taken back can be done again.
        desk.redo()
        self.assertEqual(desk.stop, 3)

    def test_kept(self):
        desk = self.desk()
        twin = self.desk()
        with desk.trial() as held:
            held.step()
            self.assertIsNone(held.keep())
            self.deeds(held)
        twin.step()
        self.deeds(twin)
        self.assertEqual((told(desk), desk), (told(twin), twin))
        self.refused(NoTrial, None, desk.keep)

    def test_left_by_errors(self):
        desk = self.desk()
        ahead = told(desk)
        with self.assertRaises(ZeroDivisionError):
            with desk.trial():
                desk.keep()
                desk.step()
                raise ZeroDivisionError
        self.assertEqual(told(desk), ahead)
        self.refused(NoTrial, None, desk.keep)
        with self.assertRaises(BadLine):
            with desk.trial():
                desk.keep()
                desk.step()
                desk.mark(99)
        self.assertEqual(told(desk), ahead)

    def test_trials_within_trials(self):
        for outer in (True, False):
            for inner in (True, False):
                desk = Desk(SUMS, ())
                with desk.trial():
                    desk.step()
                    with desk.trial():
                        desk.step()
                        if inner:
                            desk.keep()
                    self.assertEqual(desk.stop, 3 if inner else 2)
                    desk.mark(1)
                    if outer:
                        desk.keep()
                self.assertEqual((desk.stop, desk.marked), ((3 if inner else 2, (1,)) if outer else (1, ())))
        # Keep belongs to the innermost block.
        desk = Desk(SUMS, ())
        with desk.trial():
            with desk.trial():
                desk.step()
            desk.keep()
            desk.step()
        self.assertEqual(desk.stop, 2)
        with desk.trial():
            with desk.trial():
                desk.keep()
            desk.step()
        self.assertEqual(desk.stop, 2)

    def test_all_ways_out_of_two_blocks(self):
        flags = (True, False)
        for ways in [(a, b, c, d) for a in flags for b in flags for c in flags for d in flags]:
            inner_kept, inner_fails, outer_kept, outer_fails = ways
            desk = self.desk()
            ahead = told(desk), journal(desk)
            try:
                with desk.trial():
                    desk.mark(1)
                    within = told(desk), journal(desk)
                    try:
                        with desk.trial():
                            desk.go()
                            behind = told(desk), journal(desk)
                            if inner_kept:
                                desk.keep()
                            if inner_fails:
                                raise LookupError
                    except LookupError:
                        pass
                    if inner_kept and not inner_fails:
                        within = behind
                    self.assertEqual((told(desk), journal(desk)), within, ways)
                    if outer_kept:
                        desk.keep()
                    if outer_fails:
                        raise LookupError
            except LookupError:
                pass
            is_kept = outer_kept and not outer_fails
            self.assertEqual((told(desk), journal(desk)), within if is_kept else ahead, ways)
            self.refused(NoTrial, None, desk.keep)
            if is_kept:
                self.refused(NothingToRedo, None, desk.redo)
            else:
                desk.redo()
                self.assertEqual(desk.stop, 3)

    def test_an_error_that_leaves_both_blocks(self):
        desk = self.desk()
        ahead = told(desk), journal(desk)
        with self.assertRaises(NothingAhead):
            with desk.trial():
                desk.keep()
                desk.step()
                with desk.trial():
                    desk.keep()
                    desk.edit(1, 0, ("",))
                    desk.back()
        self.assertEqual((told(desk), journal(desk)), ahead)
        self.refused(NoTrial, None, desk.keep)

    def test_a_kept_block_behind_one_that_is_not(self):
        desk = self.desk()
        with desk.trial():
            desk.step()
        with desk.trial():
            desk.keep()
            desk.keep()
            desk.mark(2)
        with desk.trial():
            desk.undo()
            desk.undo()
        self.assertEqual((desk.stop, desk.marked, desk.done), (2, (2, 4), 3))

    def test_tried(self):
        desk = self.desk()
        ahead = told(desk)

        def look(held):
            self.assertIs(held, desk)
            held.go()
            return held.where()
        self.assertEqual(desk.tried(look), (4, 3))
        self.assertEqual(told(desk), ahead)
        for keep in (1, "yes", None, False, 0, (True,), [1]):
            self.assertEqual(desk.tried(look, keep=keep), (4, 3))
            self.assertEqual(told(desk), ahead)
        self.assertEqual(desk.tried(look=look, keep=True), (4, 3))
        self.assertEqual(desk.where(), (4, 3))
        with self.assertRaises(TypeError):
            desk.tried(look, True)

    def test_tried_and_kept_by_look(self):
        desk = self.desk()

        def look(held):
            held.step()
            held.keep()
            return held.tried(lambda inner: inner.step())
        stop = desk.stop
        self.assertIsNone(desk.tried(look))
        self.assertEqual(desk.stop, stop + 1)

        def failing(held):
            held.step()
            held.keep()
            raise KeyError("gone")
        with self.assertRaises(KeyError):
            desk.tried(failing, keep=True)
        self.assertEqual(desk.stop, stop + 1)
        self.refused(NoTrial, None, desk.keep)

    def test_undo_within_trials(self):
        desk = self.desk()
        ahead = told(desk), desk.done
        with desk.trial():
            desk.undo()
            desk.undo()
            self.refused(NothingToUndo, None, desk.undo)
            desk.keep()
        self.assertEqual(desk.done, 0)
        desk.redo()
        desk.redo()
        self.assertEqual((told(desk), desk.done), ahead)


class CopiesTest(Refusing, unittest.TestCase):
    def test_copies(self):
        desk = Desk(SUMS, ())
        desk.mark(4)
        desk.go()
        desk.step()
        desk.undo()
        other = desk.copy()
        self.assertEqual((other == desk, told(other)), (True, told(desk)))
        other.redo()
        self.assertEqual((other.stop, desk.stop, other == desk, other != desk), (4, 3, False, True))
        other.undo()
        other.step()
        self.refused(NothingToRedo, None, other.redo)
        desk.redo()
        self.assertEqual(other, desk)
        other.edit(1, 0, ("",))
        self.assertEqual((len(other), len(desk), desk.program), (6, 5, SUMS))

    def test_copies_are_outside_of_blocks(self):
        desk = Desk(SUMS, ())
        with desk.trial():
            desk.step()
            other = desk.copy()
            self.refused(NoTrial, None, other.keep)
            other.step()
        self.assertEqual((desk.stop, other.stop, other.done), (1, 3, 2))
        with other.trial():
            other.step()
        self.assertEqual(other.stop, 3)

    def test_equality(self):
        desk, other = Desk(SUMS, ()), Desk(Program(SUMS.text), ())
        self.assertEqual(desk, other)
        desk.step()
        self.assertNotEqual(desk, other)
        desk.undo()
        self.assertEqual(desk, other)
        # The same place by other deeds is another journal.
        desk.step()
        other.over()
        self.assertNotEqual(desk, other)
        self.assertNotEqual(desk, SUMS)
        self.assertNotEqual(desk, None)
        reads = InputsTest.READS
        self.assertNotEqual(Desk(reads, (("input", "1"),)), Desk(reads, (("input", "2"),)))
        self.assertNotEqual(Desk(reads, (("input", ""),)), Desk(reads, ()))

    def test_nothing_is_left(self):
        desk, other = Desk(CALLS, ()), Desk(CALLS, ())
        for _ in range(12):
            desk.step()
        for _ in range(12):
            desk.undo()
        self.assertEqual(told(desk), told(other))
        desk.step()
        other.step()
        self.assertEqual((told(desk), desk), (told(other), other))


class NamesTest(Refusing, unittest.TestCase):
    def test_values(self):
        desk = Desk(CALLS, ())
        for value in ("d", "one", "i", "", "N", *VALUES):
            self.refused(NoPlace, value, desk.value, value)
        self.assertEqual((desk.value("n"), desk.value(name="output")), (None, "file"))
        for _ in range(5):
            desk.step()
        self.assertEqual((desk.callers()[0][0], desk.value("d"), desk.value("n")), ("one", 3, 3))


if __name__ == "__main__":
    unittest.main()
