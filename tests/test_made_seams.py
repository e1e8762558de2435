"""Points 19, 20: made_seam, what it matches, and that the seam of one pass is told sewn; joined seams of several."""

import unittest

from begunended.checking import checked
from begunended.compiling import compiled
from begunended.errors import BadSeam, StageError, Wide
from begunended.judging import judged
from begunended.machine import run_unit
from begunended.passes import bettered, kept, made_seam
from begunended.program import Program
from begunended.seams import joined_seam
from tests.machines import Machines, proc, unit_of_rows
from tests.random_programs import random_program

PASSES = ("looks", "tests", "folded", "unread", "sums", "pairs", "again", "lines", "jumps", "dead")
READ = "place 0 0; readn"


class MadeSeamTest(Machines, unittest.TestCase):
    def seam(self, passes, rows, names="<text> n n t", more=()):
        unit = unit_of_rows(rows.split("; "), names, more=more)
        self.assertEqual(checked(unit)[0], "let", checked(unit))
        return made_seam(unit, (passes,) if isinstance(passes, str) else passes).text.split("\n")

    def test_no_pass(self):
        rows = self.seam((), "line 1; place 0 1; num 4; store; label 2; truth 1; unless 2; leave; num 1; drop; leave")
        self.assertEqual(rows, [
            "proc p0", "match 0 0", "match 1 1", "match 2 2", "work w0", "match 3 3", "work w0", "work w1", "match 5 5", "match 6 6",
            "work w0", "match 7 7"])
        more = proc("p1", "p0", "", "-", "", ["num 1", "drop", "leave"])
        self.assertEqual(self.seam((), "leave", more=more), [
            "proc p0", "match 0 0", "proc p1", "match 0 0", "match 1 1", "work w0", "match 2 2"])

    def test_rows_that_stay(self):
        rows = self.seam("sums", "num 9; num 2; num 3; add; line 4; drop; drop; leave")
        self.assertEqual(rows, ["proc p0", "match 0 0", "match 5 3", "work w0", "work w1", "match 6 4", "work w0", "match 7 5"])
        # A row that stays as row 0 of what comes is no match of its own.
        self.assertEqual(self.seam("pairs", "num 9; drop; num 2; dup; drop; drop; leave"), ["proc p0", "match 0 0"])
        self.assertEqual(self.seam("lines", "line 2; line 3; num 1; drop; leave"),
            ["proc p0", "match 0 0", "match 2 1", "match 3 2", "work w0", "match 4 3"])
        self.assertEqual(self.seam("again", "place 0 3; load; place 0 3; load; and; drop; leave"),
                         ["proc p0", "match 0 0", "match 4 3", "work w0", "work w1", "match 5 4", "work w0", "match 6 5"])

    def test_rows_that_are_not_come_to(self):
        # Behind tests the rows of the other way are come to in the left alone, then put out.
        rows = "truth 1; unless 1; leave; label 1; num 1; drop; leave"
        self.assertEqual(self.seam("tests", rows), ["proc p0", "match 0 0", "match 2 2"])
        self.assertEqual(self.seam(("tests", "dead"), rows), ["proc p0", "match 0 0", "match 2 2"])
        self.assertEqual(self.seam("tests", rows.replace("truth 1", f"{READ}; num 3; lt"))[-1], "match 9 9")

    def test_jumps_that_were_led_over(self):
        rows = "truth 1; unless 1; leave; label 1; jump 2; num 1; label 2; leave"
        unit = unit_of_rows(rows.split("; "))
        self.assertEqual(bettered(unit, ("jumps",)).code("p0"), ("truth 1", "unless 2", "leave", "jump 2", "num 1", "label 2", "leave"))
        self.assertEqual(self.seam("jumps", rows), ["proc p0", "match 0 0", "match 1 1", "work w0", "match 2 2", "match 7 6"])
        self.assertNotIn("match 4 3", self.seam("jumps", rows))
        # One over which none was led is a match.
        self.assertIn("match 2 2", self.seam("jumps", "num 1; drop; jump 1; num 1; drop; label 1; leave"))

    def test_jumps_that_lead_to_themselves(self):
        # The second jump is led over by the first: in what comes it leads to itself, lines and labels aside.
        rows = "line 1; truth 1; unless 1; leave; label 1; line 2; jump 2; num 1; drop; label 2; line 3; label 3; jump 1"
        unit = unit_of_rows(rows.split("; "))
        other = bettered(unit, ("jumps",)).code("p0")
        told = self.seam("jumps", rows)
        stays = {left: right for _, left, right in kept(unit, ("jumps",))}
        for left in (6, 12):
            if left in stays:
                label = "label " + other[stays[left]].split(" ")[1]
                behind = other.index(label)
                while other[behind].split(" ")[0] in ("label", "line"):
                    behind += 1
                self.assertEqual(f"match {left} {stays[left]}" in told, behind == stays[left], other)

    def test_lost_names(self):
        rows = "place 0 1; num 4; store; place 0 2; num 5; store; place 0 2; load; drop; leave"
        self.assertEqual(self.seam("unread", rows), [
            "proc p0", "match 0 0", "lost 1", "match 1 1", "work w0", "lost 1", "match 3 4", "lost 1", "match 4 5", "work w0", "lost 1",
            "match 5 6", "work w0", "work w1", "lost 1", "match 6 7", "lost 1", "match 7 8", "work w0", "lost 1", "match 8 9", "work w0",
            "lost 1", "match 9 10", "lost 1"])
        # Whatever passes come behind; a name without a store that was put out is none.
        told = self.seam(("unread", "pairs", "looks"), rows)
        self.assertEqual([row for row in told if row.startswith("lost")], ["lost 1"] * len([row for row in told if row.startswith("match")]))
        self.assertNotIn("lost 1", self.seam("looks", rows))
        self.assertNotIn("lost 2", "".join(told))

    def test_rows_work(self):
        unit = unit_of_rows(["num 1", "num 2", "num 3", "line 4", "drop", "drop", "drop", "leave"])
        self.assertEqual(made_seam(unit=unit, passes=()).text.split("\n")[-8:], [
            "work w1", "work w2", "match 5 5", "work w0", "work w1", "match 6 6", "work w0", "match 7 7"])


class SewnTest(Machines, unittest.TestCase):
    def sewn(self, passes, rows, names="<text> <text> n n t", more=()):
        unit = unit_of_rows(rows.split("; "), names, "input output", more)
        self.assertEqual(checked(unit)[0], "let", checked(unit))
        passes = (passes,) if isinstance(passes, str) else passes
        return judged(unit, bettered(unit, passes), made_seam(unit, passes))

    def test_one_pass(self):
        rows = {
            "looks": f"{READ}; look 0 9; look -5 20; drop; leave",
            "tests": f"{READ}; look 0 9; num 20; lt; unless 1; place 0 1; writeln; leave; label 1; trap case",
            "folded": "place 0 2; num 1; store; place 0 1; place 0 2; load; num 1; add; num 3; writen; leave",
            "unread": f"place 0 2; {READ}; store; place 0 1; writeln; leave",
            "sums": "place 0 1; num 2; num 3; add; num 4; mul; num 5; writen; num 4; table 3 1 2; label 1; trap case; label 2; leave",
            "pairs": f"{READ}; num 0; add; neg; neg; num 1; mul; dup; drop; num 3; lt; not; unless 1; label 1; leave",
            "again": f"place 0 2; {READ}; store; place 0 2; load; place 0 2; load; add; drop; place 0 2; place 0 2; load; num 1; sub; store; leave",
            "lines": "line 1; line 2; place 0 1; line 3; line 4; writeln; line 5; label 1; line 6; leave",
            "jumps": "place 0 0; eof; unless 1; line 4; jump 2; label 2; line 5; leave; label 1; line 6; jump 3; label 3; line 7; leave",
            "dead": "jump 1; num 1; label 2; drop; jump 2; label 1; leave"}
        self.assertEqual(sorted(rows), sorted(PASSES))
        for word, told in rows.items():
            unit = unit_of_rows(told.split("; "), "<text> <text> n n t", "input output")
            self.assertNotEqual(bettered(unit, (word,)), unit, word)
            self.assertEqual(self.sewn(word, told), ("sewn",), word)

    def test_folded_ahead_of_labels(self):
        # Terms tell what comes of the row, though its claims are joined with those of other ways.
        rows = "place 0 1; place 0 0; eof; unless 1; num 3; num 1; add; label 2; num 3; writen; leave; label 1; num 9; jump 2"
        self.assertEqual(self.sewn("folded", rows), ("sewn",))
        self.assertEqual(self.sewn("folded", rows.replace("add; label 2", "add; line 4; label 2")), ("sewn",))

    def test_programs(self):
        many = 0
        for seed in range(16):
            try:
                unit = compiled(Program(random_program(seed)))
            except StageError:
                continue
            many += 1
            now, seams = unit, None
            for word in PASSES:
                other = bettered(now, (word,))
                seam = made_seam(now, (word,))
                try:
                    self.assertEqual(judged(now, other, seam), ("sewn",), (seed, word))
                except Wide as caught:
                    self.assertEqual(caught.value, 80)
                seams = seam if seams is None else joined_seam(seams, seam)
                now = other
            self.whole(unit, now, seams)
        self.assertGreater(many, 5)

    def whole(self, unit, other, seam):
        """A joined seam may be refused; where it is not, both have the same doing."""
        try:
            found = judged(unit, other, seam)
        except (Wide, BadSeam):
            return
        if found == ("sewn",):
            inputs = (("input", "12 abc 4 7\nx y 9\n3"),)
            told = run_unit(unit, inputs, 3000)
            if told[1] != ("on",):
                self.assertEqual(run_unit(other, inputs, 3000), told)


if __name__ == "__main__":
    unittest.main()
