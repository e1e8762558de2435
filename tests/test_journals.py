"""Point 21: journals: what was done, as a text, and read back; each way in which a text is none."""

import unittest

from begunended.desk import Desk
from begunended.errors import BadJournal, StageError
from begunended.journals import journal, read_journal
from begunended.program import Program
from tests.common import Refusing
from tests.test_desk import SUMS, told

READS = Program("program r(input, output, f);\nvar f: text; n: integer;\nbegin read(n);\nwriteln(n * 2: 3) end.")
HEAD = "program 2\nprogram p;\nbegin end.\ndeeds"


class JournalTest(Refusing, unittest.TestCase):
    def test_rows(self):
        desk = Desk(SUMS, ())
        self.assertEqual(journal(desk), "program 5\n" + SUMS.text + "\ndeeds")
        desk.mark(4)
        desk.step()
        desk.over()
        desk.go()
        desk.back()
        desk.edit(5, 5, ("", "  writeln(s: 4) end."))
        desk.edit(1, 0, ())
        desk.step()
        desk.undo()
        self.assertEqual(journal(desk=desk), "program 5\n" + SUMS.text + (
            "\ndeeds\nmark 4\nstep\nover\ngo\nback\nedit 5 5 2\n\n  writeln(s: 4) end.\nedit 1 0 0"))

    def test_inputs(self):
        for inputs, rows in (
                ((("input", "1\n2"),), "input input 2\n1\n2\n"), ((("f", ""), ("input", "\n")), "input f 1\n\ninput input 2\n\n\n"),
                ((("input", "deeds"),), "input input 1\ndeeds\n"), ((), "")):
            desk = Desk(READS, inputs)
            self.assertEqual(journal(desk), "program 4\n" + READS.text + "\n" + rows + "deeds")
            other = read_journal(journal(desk))
            self.assertEqual((other, other.inputs), (desk, inputs))

    def test_read_back(self):
        desk = Desk(READS, (("input", "12"),))
        for deed, given in (("mark", (4,)), ("go", ()), ("edit", (4, 4, ("writeln(n: 9)", "{step", "deeds}", "end."))),
                            ("mark", (3,)), ("go", ()), ("step", ()), ("over", ()), ("back", ()), ("undo", ()), ("mark", (3,))):
            getattr(desk, deed)(*given)
            other = read_journal(journal(desk))
            self.assertEqual((other, journal(other), told(other)), (desk, journal(desk), told(desk)))
        other = read_journal(text=journal(desk))
        while True:
            try:
                desk.undo()
                other.undo()
            except StageError:
                break
            self.assertEqual(told(other), told(desk))

    def test_no_strings(self):
        for value in (None, 3, True, ("program 1",), ["x"], b"program 1", {}):
            self.refused(BadJournal, 0, read_journal, value)

    def test_heads_that_cannot_stand(self):
        for text, number in (
                ("", 1), ("program", 1), ("program x", 1), ("program 0", 1), ("program -1", 1), ("program 01", 1), ("program 1 1", 1),
                ("Program 1", 1), (" program 1", 1),
                ("program  1", 1), ("deeds", 1), ("program 1", 2), ("program 3\na\nb", 4), ("program 99999999999999999999\na\nb", 4),
                ("program " + "9" * 4350 + "\na", 3),
                ("program 1\nx", 3), ("program 1\nx\n", 3), ("program 1\nx\nstep", 3), ("program 1\nx\ndeeds ", 3),
                ("program 1\nx\ndeeds 1", 3), ("program 1\nx\ninput", 3),
                ("program 1\nx\ninput a", 3), ("program 1\nx\ninput a 0", 3), ("program 1\nx\ninput A 1\n", 3),
                ("program 1\nx\ninput 1a 1\n", 3), ("program 1\nx\ninput a_b 1\n", 3),
                ("program 1\nx\ninput a 1 1\n", 3), ("program 1\nx\ninput a x\n", 3), ("program 1\nx\ninput a 1", 4),
                ("program 1\nx\ninput a 2\ny", 5), ("program 1\nx\ninput a 1\ny", 5),
                ("program 1\nx\ninput a 1\ny\nstep", 5), ("program +1\nx\ndeeds", 1), ("program 1.0\nx\ndeeds", 1)):
            self.refused(BadJournal, number, read_journal, text)

    def test_what_is_refused_at_the_row_deeds(self):
        for text in ("program 1\nx\ndeeds", "program 1\nx\ndeeds\nnonsense", "program 2\nprogram p;\nbegin a := 1 end.\ndeeds",
            "program 1\nprogram p; begin end.\ninput f 1\nx\ndeeds",
                     "program 1\nprogram p(output); begin end.\ninput output 1\nx\ndeeds",
                     "program 1\nprogram p(input); begin end.\ninput input 1\nx\ninput input 1\nx\ndeeds",
                     "program 1\nprogram p(input); begin end.\ninput input 1\n\t\ndeeds",
                     "program 1\nprogram p; var a: integer; begin " + "a := 1; " * 60 + "end.\ndeeds",
                     "program 1\nprogram p(f); var f: file of char; begin end.\ninput f 1\na\ndeeds"):
            self.refused(BadJournal, text.split("\n").index("deeds") + 1, read_journal, text)

    def test_deeds_that_cannot_stand(self):
        for rows in ("steps", "", "step 1", "over 1", "go 1", "back 1", "mark", "mark x", "mark 1 1", "mark 01", "mark -0", "mark 1.0",
            "undo", "redo", "Step", " step", "step ", "edit", "edit 1", "edit 1 1",
                     "edit 1 1 x", "edit 1 x 0", "edit x 1 0", "edit 1 1 -1", "edit 1 1 1 1\nx", "program 1\nx", "deeds", "input f 1\nx",
                     "keep", "trial"):
            self.refused(BadJournal, 5, read_journal, HEAD + "\n" + rows)
        self.refused(BadJournal, 6, read_journal, HEAD + "\nstep\n")

    def test_deeds_that_are_refused(self):
        for rows, number in (
                ("mark 0", 5), ("mark 3", 5), ("mark -1", 5), ("mark 99999999999999999999999", 5), ("back", 5), ("step\nstep\nstep", 7),
                ("go\nover", 6), ("go\nback\nback\nback", 8),
                ("edit 0 1 0", 5), ("edit 1 3 0", 5), ("edit 4 3 0", 5), ("edit -1 0 0", 5), ("edit 1 2 1\nx", 5),
                ("mark 1\nedit 1 1 2\nprogram p;\n3\nstep", 6), ("mark 1\nedit 2 2 1\nbegin a end.", 6),
                ("edit 1 1 99999999999\nx", 7), ("edit 1 1 2\nx", 7), ("step\nedit 1 1 1", 7), ("edit 9 1 3\nx", 7)):
            self.refused(BadJournal, number, read_journal, HEAD + "\n" + rows)
        loop = "program 1\nprogram l; begin while true do end.\ndeeds\nstep\ngo"
        self.refused(BadJournal, 5, read_journal, loop)

    def test_deeds_that_stand(self):
        desk = read_journal(HEAD + "\nmark 2\nmark 1\ngo\nedit 3 2 1\n{}\nstep\nback\nedit 1 3 2\nprogram q;\nbegin end.\nmark 2")
        self.assertEqual((desk.done, desk.marked, desk.stop, desk.program.text), (8, (2,), 1, "program q;\nbegin end."))
        self.assertEqual(len(desk), 2)


if __name__ == "__main__":
    unittest.main()
