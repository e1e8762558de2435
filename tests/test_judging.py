"""Point 20: judged: each word, normal forms, what is barred, things met, fresh signs, hidden names, far, Wide, errors."""

import unittest

from begunended.checking import checked
from begunended.errors import BadSeam, BadValue, NotLet, NotWhole, Wide
from begunended.judging import judged
from begunended.seams import Seam
from begunended.units import Unit
from tests.machines import Machines, proc, unit_of_rows

NAMES = "<text> <text> n n t c s 3*n (n,{(n)|(c)}) ^l0"
READ = "place 0 0; readn"
WRITE = "place 0 1; {}; num 3; writen"


def parted(rows):
    return rows.split("; ") if rows else []


class Judging(Machines):
    """For test cases: what is judged of rows, behind which the program leaves."""

    def judge(self, left, right, seam=None, names=NAMES, more=(), others=None, own="", last="leave"):
        """Own are further names of the right, more the procs behind the left, others those behind the right."""
        units = []
        for rows, told, procs in ((left, names, more), (right, (names + " " + own).strip(), more if others is None else others)):
            units.append(unit_of_rows([*parted(rows), *parted(last)], told, "input output" if names.startswith("<text> <text>") else "",
                procs))
            self.assertEqual(checked(units[-1])[0], "let", (rows, checked(units[-1])))
        if seam is None:
            seam = "; ".join([f"proc {name}; match 0 0" for name in units[0].procs])
        return judged(units[0], units[1], Seam("\n".join(parted(seam))))

    def sewn(self, left, right, *seam, **told):
        self.assertEqual(self.judge(left, right, *seam, **told), ("sewn",), (left, right))

    def refused_by(self, word, left, right, *seam, number=0, name="p0", **told):
        self.assertEqual(self.judge(left, right, *seam, **told), ("not", name, number, word), (left, right))

    def written(self, one, other, ahead="", **told):
        """Whether two values that are written are told to be the same, by what stands ahead of them."""
        ahead = ahead + "; " if ahead else ""
        found = self.judge(ahead + WRITE.format(one), ahead + WRITE.format(other), **told)
        if found != ("sewn",):
            self.assertEqual(found, ("not", "p0", 0, "event"), (one, other))
        return found == ("sewn",)


class WordsTest(Judging, unittest.TestCase):
    def test_the_example(self):
        head = "proc p0 -\ntakes\ngives -\nnames <text> n\nfiles output\nwork 3\nline 1\n"
        plain = Unit(head + "place 0 1\nnum 2\nnum 3\nadd\nstore\nplace 0 0\nplace 0 1\nload\nnum 1\nwriten\nleave\nend")
        short = Unit(head + "place 0 0\nnum 5\nnum 1\nwriten\nleave\nend")
        seam = Seam("proc p0\nmatch 0 0")
        told = [judged(plain, short, seam), judged(short, plain, seam), judged(plain, Unit(short.text.replace("num 5", "num 6")), seam)]
        self.assertEqual(told, [("sewn",), ("sewn",), ("not", "p0", 0, "event")])
        self.assertEqual(judged(left=plain, right=plain, seam=seam), ("sewn",))

    def test_lost(self):
        left = "place 0 2; num 4; store; " + WRITE.format("place 0 2; load")
        seam = "proc p0; match 0 0; match 3 3; {}"
        self.sewn(left, left, seam.format("name 2 num(4)"))
        self.refused_by("lost", left, left, seam.format("lost 2"), number=1)
        # A name that only the right has is lost where nothing is told of it.
        right = "place 0 10; num 4; store; place 0 1; place 0 10; load; num 3; writen"
        left = WRITE.format("num 4")
        self.sewn(left, right, own="n")
        self.refused_by("lost", left, right, "proc p0; match 0 0; match 1 4; work w0", own="n", number=1)
        self.sewn(left, right, "proc p0; match 0 0; match 1 4; work w0; name 10 num(4)", own="n")
        # A result that is lost.
        result = proc("p1", "p0", "", "n", "n", ["place 0 0", "num 4", "store", "leave"])
        seam = "proc p0; match 0 0; proc p1; match 0 0; match 3 3"
        self.sewn("call p1; drop", "call p1; drop", seam, more=result)
        self.refused_by("lost", "call p1; drop", "call p1; drop", seam + "; lost 0", more=result, name="p1", number=1)

    def test_test(self):
        left = READ + "; num 3; lt; unless 1; trap case; label 1"
        self.sewn(left, left)
        self.sewn(left, READ + "; num 3; ge; unless 2; jump 1; label 2; trap case; label 1")
        self.refused_by("test", READ + "; drop", READ + "; num 3; lt; unless 1; label 1")
        self.refused_by("test", left, left.replace("num 3", "num 4"))
        table = READ + "; table 1 1 2; label 1; trap case; label 2"
        self.sewn(table, table)
        self.refused_by("test", READ + "; drop", READ + "; table 1 1 1; label 1")
        # By the trap of the left the right goes, if it has no other numbers.
        self.sewn(READ + "; table 1 1 1; label 1", READ + "; table 1 1 1; label 1")
        self.refused_by("test", READ + "; table 1 1 1; label 1", READ + "; table 1 1 1 1; label 1")
        # By a truth whose not the left went by.
        self.sewn("place 0 0; eof; unless 1; trap case; label 1", "place 0 0; eof; not; unless 1; jump 2; label 1; trap case; label 2")

    def test_tests_ahead_of_events(self):
        # The right tests ahead of its event what the left tests behind its own.
        left = READ + "; place 0 1; writeln; num 3; lt; unless 1; trap case; label 1"
        right = READ + "; dup; num 3; lt; unless 1; place 0 1; writeln; drop; trap case; label 1; place 0 1; writeln; drop"
        self.refused_by("test", left, right)
        self.sewn(right, right)

    def test_event(self):
        left = WRITE.format("num 4")
        self.refused_by("event", left, "")
        self.refused_by("event", "", left)
        self.refused_by("event", left, WRITE.format("num 5"))
        self.refused_by("event", left, left.replace("num 3", "num 2"))
        self.refused_by("event", left, "place 0 1; truth 1; num 3; writet")
        self.refused_by("event", "line 3; " + left, "line 4; " + left, last="line 5; leave")
        self.sewn("line 4; line 3; " + left, "line 3; " + left)
        self.refused_by("event", "trap case", "trap file", last="")
        self.refused_by("event", "", "trap case", last="leave")
        self.refused_by("event", "place 0 7; num 1; index 1 3; num 1; store; place 0 7; num 2; index 1 3; num 2; store",
                        "place 0 7; num 2; index 1 3; num 2; store; place 0 7; num 1; index 1 3; num 1; store")

    def test_place(self):
        left = "place 0 2; num 4; store; num 1; drop"
        seam = "proc p0; match 0 0; match 3 4"
        for end in ("leave", "trap case"):
            self.refused_by("place", left, f"truth 1; unless 1; {end}; label 1; num 1; drop", seam)

    def test_term(self):
        left = "num 4; place 0 2; num 5; store; drop"
        seam = "proc p0; match 0 0; match 4 4; work {}"
        for term, told in (("w0", True), ("num(4)", True), ("add(num(1),num(3))", True), ("num(5)", False), ("n2", False),
                ("sub(n2,num(1))", True)):
            found = self.judge(left, left, seam.format(term))
            self.assertEqual(found, ("sewn",) if told else ("not", "p0", 0, "term"), term)
        seam = "proc p0; match 0 0; match 3 3; {}"
        rows = "place 0 2; num 5; store; place 0 3; num 6; store"
        for row, told in (("name 2 num(5)", True), ("name 2 n2", True), ("name 2 num(6)", False), ("lost 2", True), ("name 3 n3", True),
                ("name 3 n2", False)):
            found = self.judge(rows, rows, seam.format(row))
            self.assertEqual(found, ("sewn",) if told else ("not", "p0", 0, "term"), row)
        # Names of which nothing is told hold what the left's do.
        self.refused_by("term", rows, rows.replace("num 6", "num 7"), "proc p0; match 0 0; match 6 6")
        self.sewn(rows, rows.replace("num 6", "num 7"), "proc p0; match 0 0; match 6 6; lost 3")
        self.sewn(rows, rows.replace("num 6", "num 7"), "proc p0; match 0 0; match 6 6; name 3 num(7)")
        self.refused_by("term", rows, rows + "; place 0 3; unset", "proc p0; match 0 0; match 6 8")

    def test_line(self):
        left = "line 3; num 4; drop"
        self.sewn(left, left, "proc p0; match 0 0; match 2 2; work w0")
        self.refused_by("line", left, "line 5; num 4; drop", "proc p0; match 0 0; match 2 2; work w0")
        self.refused_by("line", left, "num 4; drop", "proc p0; match 0 0; match 2 1; work w0")
        # A line that stands behind the match comes too late for what is ahead, but not for what is behind.
        self.sewn("line 3; num 4; drop; " + WRITE.format("num 1"), "num 4; line 3; drop; " + WRITE.format("num 1"))

    def test_lines_at_matches(self):
        # Two ways with lines of their own come to one row: both units have one of them there.
        rows = "place 0 0; eof; unless 1; line 3; jump 2; label 1; line 4; label 2; " + WRITE.format("num 1")
        seam = "proc p0; match 0 0; match 8 8"
        self.sewn(rows, rows, seam)
        self.refused_by("line", rows, rows.replace("line 4", "line 5"), seam)
        self.refused_by("event", rows, rows.replace("label 2; place", "label 2; line 9; place"), seam, number=1)

    def test_far(self):
        more = proc("p1", "p0", "", "-", "", ["far 1 3"])
        rows = "place 0 2; num 4; store; call p1; trap case; label 3; " + WRITE.format("num 1")
        seam = "proc p0; match 0 0; {}proc p1; match 0 0"
        self.sewn(rows, rows, seam.format(""), more=more)
        self.refused_by("far", rows, rows.replace("num 4", "num 5"), seam.format(""), more=more)
        self.refused_by("far", rows, "call p1; trap case; label 3; " + WRITE.format("num 1"), seam.format(""), more=more)
        # A match of the label's rows that tells names is refused at match 0, ahead of all.
        self.sewn(rows, rows, seam.format("match 5 5; "), more=more)
        for told in ("lost 2; ", "name 2 n2; ", "name 2 num(4); "):
            self.refused_by("far", rows, rows.replace("num 4", "num 5"), seam.format("match 5 5; " + told), more=more)
        # Other matches may tell names.
        self.sewn(rows, rows, seam.format("match 3 3; name 2 num(4); match 5 5; "), more=more)
        self.refused_by("far", rows, rows, seam.format("match 3 3; lost 2; match 5 5; "), more=more, number=1)
        # Of a proc to which no far comes nothing is refused so.
        plain = proc("p1", "p0", "", "-", "", ["leave", "far 1 3"])
        self.sewn(rows, rows.replace("num 4", "num 5"), seam.format(""), more=plain, last="leave")

    def test_the_first_match_and_word(self):
        left = "place 0 2; num 5; store; " + WRITE.format("place 0 2; load") + "; " + WRITE.format("num 1")
        seam = "proc p0; match 0 0; match 3 3; match 8 8"
        self.refused_by("event", left, left[:-len("num 1; num 3; writen")] + "num 2; num 3; writen", seam, number=2)
        self.refused_by("term", left, left.replace("num 5", "num 6"), seam)
        more = proc("p1", "p0", "", "-", "", ["num 1", "drop", "leave"])
        others = proc("p1", "p0", "", "-", "", ["num 1", "drop", "line 2", "leave"])
        self.refused_by("event", "call p1", "call p1", "proc p0; match 0 0; proc p1; match 0 0; match 1 1; work w0; match 2 2", more=more,
            others=others, name="p1", number=2)
        # Row by row lost, test, place come ahead of events.
        rows = "place 0 2; num 5; store; {}num 1; drop"
        self.refused_by("lost", rows.format(""), rows.format("place 0 3; load; drop; " + WRITE.format("num 1") + "; "),
            "proc p0; match 0 0; lost 3; match 3 10")


class NormalFormsTest(Judging, unittest.TestCase):
    X = "place 0 2; load"
    Y = "place 0 3; load"
    # Two numbers from 0 to 9, in names 2 and 3.
    AHEAD = "place 0 2; place 0 0; readn; look 0 9; store; place 0 3; place 0 0; readn; look 0 9; store"

    def same(self, one, other):
        return self.written(one.format(x=self.X, y=self.Y), other.format(x=self.X, y=self.Y), ahead=self.AHEAD)

    def test_sums(self):
        for one, other in (
                ("{x}; {y}; add", "{y}; {x}; add"), ("{x}; num 3; add; num 4; sub", "{x}; num 1; sub"),
                ("{x}; dup; add", "{x}; num 2; mul"),
                ("{x}; {y}; add; {y}; sub", "{x}"), ("{x}; {x}; sub", "num 0"), ("{x}; neg; {y}; add", "{y}; {x}; sub"),
                ("num 2; {x}; {y}; add; mul", "{x}; {y}; add; dup; add"),
                ("{x}; num -1; mul", "{x}; neg"), ("{x}; num 0; mul", "num 0"), ("num 3; num 4; add", "num 7"), ("{x}; neg; neg", "{x}")):
            self.assertTrue(self.same(one, other), (one, other))
        for one, other in (("{x}; {y}; add", "{x}; {y}; sub"), ("{x}; {y}; sub", "{y}; {x}; sub"), ("{x}; num 1; add", "{x}"),
                ("{x}", "{y}"), ("{x}; num 2; mul", "{x}; num 3; mul")):
            self.assertFalse(self.same(one, other), (one, other))

    def test_products(self):
        for one, other in (("{x}; {y}; mul", "{y}; {x}; mul"), ("{x}; sqr", "{x}; {x}; mul"),
            ("{x}; {y}; mul; {y}; {x}; mul; sub", "num 0"),
                           ("{x}; num 1; add; {y}; mul", "{y}; num 1; {x}; add; mul")):
            self.assertTrue(self.same(one, other), (one, other))
        # Products of sums are not gone into.
        self.assertFalse(self.same("{x}; num 1; add; {y}; mul", "{x}; {y}; mul; {y}; add"))
        self.assertFalse(self.same("{x}; num 3; div", "{x}; num 4; div"))
        self.assertTrue(self.same("{x}; num 1; add; num 3; div", "num 1; {x}; add; num 3; div"))
        self.assertTrue(self.same("num 17; num 3; mod; num 17; num 3; div; mul; abs", "num 10"))

    def truths(self, one, other):
        """Whether two truths are told to be the same where they are tested."""
        ahead = self.AHEAD + "; place 0 4; place 0 0; eof; store; "
        forms = [truth.format(x=self.X, y=self.Y, t="place 0 4; load") for truth in (one, other)]
        rows = ["place 0 1; " + truth + "; num 5; writet" for truth in forms]
        found = self.judge(ahead + rows[0], ahead + rows[1])
        if found != ("sewn",):
            self.assertEqual(found, ("not", "p0", 0, "event"), (one, other))
        return found == ("sewn",)

    def test_comparisons(self):
        for one, other in (
                ("{x}; {y}; lt", "{y}; {x}; gt"), ("{x}; {y}; le", "{y}; {x}; ge"), ("{x}; {y}; eq", "{y}; {x}; eq"),
                ("{x}; {y}; ne", "{y}; {x}; eq; not"),
                ("{x}; {y}; lt", "{x}; {y}; ge; not"), ("{x}; {y}; lt", "{x}; num 1; add; {y}; le"), ("{x}; num 3; lt", "{x}; num 2; le"),
                ("{x}; {y}; sub; num 0; eq", "{x}; {y}; eq"), ("{t}; not; not", "{t}"), ("{t}; truth 1; and", "{t}"),
                ("truth 0; {t}; or", "{t}"),
                ("{t}; truth 0; and", "truth 0"), ("{t}; truth 1; or", "truth 1"), ("{x}; {x}; eq", "truth 1"),
                ("{x}; num 1; add; {x}; le", "truth 0"),
                ("{t}; ordt; num 0; eq", "{t}; truth 0; eq"), ("{x}; {y}; le; not", "{x}; {y}; gt")):
            self.assertTrue(self.truths(one, other), (one, other))
        for one, other in (("{x}; {y}; lt", "{x}; {y}; le"), ("{x}; {y}; lt", "{y}; {x}; lt"), ("{t}", "{t}; not"),
            ("{t}; {x}; {y}; lt; and", "{x}; {y}; lt; {t}; and"),
                           ("{x}; {y}; eq", "{x}; {y}; ne")):
            self.assertFalse(self.truths(one, other), (one, other))

    def test_sets_and_pointers(self):
        ahead = "place 0 6; set 1 2; store; place 0 9; new; "
        for one, other, told in (
                ("set 1; set 2; join; place 0 6; load; seq", "set 1 2; place 0 6; load; seq", True),
                ("set 1; place 0 6; load; sne", "set 1; place 0 6; load; seq; not", True),
                ("nil l0; place 0 9; load; unlike", "nil l0; place 0 9; load; same; not", True), ("nil l0; nil l0; same", "truth 1", True),
                ("set 1; place 0 6; load; inside", "set 1; place 0 6; load; around", False),
                ("num 1; place 0 6; load; in", "num 2; place 0 6; load; in", False),
                ("num 3; set 3 4; in", "truth 1", True), ("set 1; set 1 2; inside", "truth 1", True)):
            rows = [ahead + "place 0 1; " + truth + "; num 5; writet" for truth in (one, other)]
            self.assertEqual(self.judge(*rows) == ("sewn",), told, (one, other))

    def test_numbers_that_claims_tell(self):
        # Name 2 surely is 5, and so is what is read behind the look.
        ahead = "place 0 2; num 5; store"
        self.assertTrue(self.written("place 0 2; load; num 2; add", "num 7", ahead=ahead))
        self.assertTrue(self.written("place 0 0; readn; look 4 4", "place 0 0; readn; look 4 4; drop; num 4"))
        self.assertFalse(self.written("place 0 0; readn; look 4 5", "place 0 0; readn; look 4 5; drop; num 4"))
        # A test that is claimed one way is gone one way.
        rows = "place 0 2; place 0 0; readn; look 4 5; store; place 0 2; load; num 9; {}; unless 1; place 0 1; writeln; label 1"
        self.sewn(rows.format("lt"), "place 0 2; place 0 0; readn; look 4 5; store; place 0 1; writeln")
        self.sewn(rows.format("gt"), "place 0 2; place 0 0; readn; look 4 5; store")


class BarredTest(Judging, unittest.TestCase):
    BOTH = "place 0 2; place 0 0; readn; look 0 9; store"

    def bars(self, rows, ahead=BOTH):
        """Whether rows that leave nothing may be left out: whether no trap may come of them."""
        found = self.judge(f"{ahead}; {rows}", ahead)
        if found != ("sewn",):
            self.assertEqual(found, ("not", "p0", 0, "event"), rows)
        return found == ("sewn",)

    def test_by_stretches(self):
        x = "place 0 2; load"
        for rows in (f"{x}; num 5; add; drop", f"{x}; {x}; mul; drop", f"{x}; sqr; drop", f"{x}; neg; abs; drop", f"{x}; num 3; div; drop",
            f"{x}; num 3; mod; drop",
                     f"{x}; num 40; add; chr; drop", f"{x}; look 0 9; drop", f"{x}; look -5 50; drop", f"{x}; one; drop",
                     f"{x}; num 5; span; drop", "num 1; tru; drop",
                     f"place 0 7; {x}; num 3; mod; index 0 2; drop", f"{x}; num 5; add; look 5 14; drop", f"{x}; neg; drop"):
            self.assertTrue(self.bars(rows), rows)
        for rows in (f"{x}; num 2147483640; add; drop", f"{x}; num 2147483647; mul; drop", f"num 3; {x}; div; drop",
            f"num 3; {x}; mod; drop", f"{x}; num 30; add; chr; drop",
                     f"{x}; look 1 9; drop", f"{x}; look 0 8; drop", f"{x}; num 1; sub; one; drop",
                     f"{x}; num 120; add; num 5; span; drop", f"{x}; tru; drop",
                     f"place 0 7; {x}; index 0 2; drop", "place 0 7; num 1; index 0 2; load; drop", "nil l0; aim; drop",
                     "place 0 8; field 1; arm 0; drop",
                     "string 65; place 0 5; drop; string 65; text eq; drop"):
            self.assertFalse(self.bars(rows), rows)

    def test_by_normal_forms(self):
        # What is taken off again cannot come beyond.
        ahead = "place 0 2; place 0 0; readn; store"
        self.assertFalse(self.bars("place 0 2; load; num 5; add; num 5; sub; drop", ahead))
        self.sewn(f"{ahead}; place 0 2; load; num 5; add; num 5; sub; drop", f"{ahead}; place 0 2; load; num 5; add; drop")

    def test_by_what_was_done(self):
        for row in ("place 0 2; load; look 3 7; drop", "place 0 2; load; num 2147483640; add; drop", "num 3; place 0 2; load; div; drop",
            "place 0 2; load; chr; drop",
                    "place 0 7; place 0 2; load; index 0 2; drop", "place 0 7; num 1; index 0 2; load; drop",
                    "place 0 8; field 1; arm 0; drop", "place 0 9; load; drop",
                    "place 0 2; load; one; drop", "place 0 6; load; within 0 9; drop"):
            self.sewn(f"{self.BOTH}; {row}; {row}", f"{self.BOTH}; {row}")
        # With other terms, or another order, it may trap.
        for one, other in (("place 0 2; load; look 3 7; drop", "place 0 2; load; look 3 6; drop"),
            ("num 3; place 0 2; load; div; drop", "num 3; place 0 2; load; mod; drop"),
                           ("num 3; place 0 2; load; div; drop", "num 4; place 0 2; load; div; drop"),
                           ("place 0 8; field 1; arm 0; drop", "place 0 8; field 1; arm 1; drop")):
            self.refused_by("event", f"{self.BOTH}; {one}; {other}", f"{self.BOTH}; {one}")

    def test_at_the_same_time(self):
        # Behind each deed a place may be gone, unset, an arm may live no more: aim, arm, load, text may trap anew.
        for row in ("place 0 7; num 1; index 0 2; load; drop", "place 0 8; field 1; arm 0; drop", "place 0 9; load; aim; drop",
                "place 0 9; load; drop"):
            self.sewn(f"{row}; {row}; place 0 1; writeln", f"{row}; place 0 1; writeln")
            self.refused_by("event", f"{row}; place 0 1; writeln; {row}", f"{row}; place 0 1; writeln")
        text = "string 65 66; string 65 66; text eq; drop"
        self.sewn(f"{text}; {text}", text)
        self.refused_by("event", f"{text}; place 0 1; writeln; {text}", f"{text}; place 0 1; writeln")
        # What hangs on values alone may not.
        row = "num 3; place 0 2; load; div; drop"
        self.sewn(f"{self.BOTH}; {row}; place 0 1; writeln; {row}", f"{self.BOTH}; {row}; place 0 1; writeln")

    def test_within(self):
        for rows in ("set 3 4; within 3 9; drop", "place 0 6; load; within 0 127; drop"):
            ahead = "place 0 6; set 1; store" if "127" in rows else self.BOTH
            left = f"{ahead}; {rows}"
            right = ahead + ("; place 0 6; load; drop" if "127" in rows else "")
            self.sewn(left, right)
        load = "place 0 6; load; within 3 9; "
        self.sewn(load + "within 0 20; drop", load + "drop")
        self.sewn(load + "within 3 9; drop", load + "drop")
        self.refused_by("event", load + "within 4 20; drop", load + "drop")
        self.refused_by("event", "set 3 4; within 4 9; drop", "")
        self.refused_by("event", "place 0 6; load; within 1 127; drop", "place 0 6; load; drop")

    def test_private_names(self):
        load = "place 0 2; load; drop"
        # A name that is set on this way, or claimed set.
        self.sewn("place 0 2; num 4; store; " + load, "")
        rows = "place 0 2; num 4; store; place 0 0; eof; unless 1; label 1; " + load
        self.sewn(rows, rows.replace("; " + load, ""), "proc p0; match 0 0; match 7 7")
        # A name that may be unset.
        rows = "place 0 0; eof; unless 1; place 0 2; num 4; store; label 1; {}num 1; drop"
        seam = "proc p0; match 0 0; match 7 7"
        self.sewn(rows.format(load + "; "), rows.format(load + "; "), seam)
        self.refused_by("event", rows.format(load + "; "), rows.format(""), seam, number=1)
        self.sewn(rows.format(load + "; " + load + "; "), rows.format(load + "; "), seam)
        # A name of which nothing is told may be unset likewise.
        rows = "place 0 0; eof; unless 1; place 0 2; num 4; store; label 1; {}"
        self.refused_by("event", rows.format("num 1; drop"), rows.format(load), "proc p0; match 0 0; match 7 7", number=1)

    def test_names_told_by_others(self):
        # The right keeps in a name of its own what the left's name 2 holds, set or not.
        left = "place 0 0; eof; unless 1; place 0 2; num 4; store; label 1; place 0 2; load; drop"
        right = "place 0 0; eof; unless 1; place 0 2; num 4; store; place 0 10; num 4; store; label 1; place 0 10; load; drop"
        seam = "proc p0; match 0 0; match 7 10; name 10 n2"
        self.refused_by("term", left, right, seam, own="n")
        seam = "proc p0; match 0 0; match 3 3; match 7 10; {}"
        self.refused_by("term", left, right, seam.format("name 10 n2"), own="n")
        # On the way where it is unset the right must unset it, too.
        right = "place 0 2; unset; place 0 10; unset; " + right
        left = "place 0 2; unset; " + left
        self.sewn(left, right, "proc p0; match 0 0; match 9 14; name 10 n2", own="n")

    def test_unset_names(self):
        left = "place 0 2; num 4; store; place 0 2; unset; {}"
        load = "place 0 2; load; drop"
        self.sewn(left.format(load), left.format(load))
        # Whatever stands behind the load, it surely traps; only the events up to there count.
        self.sewn(left.format(load + "; " + WRITE.format("num 1")), left.format(load + "; " + WRITE.format("num 2")))
        self.refused_by("event", left.format(load), left.format("num 1; drop"))
        self.refused_by("event", left.format("num 1; drop"), left.format(load))


class ThingsMetTest(Judging, unittest.TestCase):
    def test_loads(self):
        load = "place 0 7; num 1; index 1 3; load"
        one, other = f"{load}; {load}; add", f"{load}; dup; add"
        self.assertTrue(self.written(one, other))
        self.assertTrue(self.written(f"{load}; {load}; sub", f"{load}; drop; num 0"))
        late = f"place 0 1; {load}; place 0 1; writeln; num 3; writen"
        self.sewn(late, late)
        # At another time it may be another thing.
        self.refused_by("event", late, f"place 0 1; writeln; place 0 1; {load}; num 3; writen")
        self.refused_by("event", f"{load}; place 0 1; writeln; drop; place 0 1; {load}; num 3; writen",
            f"place 0 3; {load}; store; place 0 1; writeln; place 0 1; place 0 3; load; num 3; writen")

    def test_what_is_read(self):
        self.assertTrue(self.written(f"{READ}; look 0 9; dup; add", f"{READ}; look 0 9; num 2; mul"))
        self.assertFalse(self.written(f"{READ}; look 0 9; {READ}; look 0 9; sub", f"{READ}; look 0 9; {READ}; look 0 9; drop; drop; num 0"))
        rows = "place 0 1; place 0 0; {}; num 5; writet"
        for word in ("eof", "eoln"):
            self.sewn(rows.format(word), rows.format(word + "; not; not"))
        self.refused_by("event", rows.format("eof"), rows.format("eoln"))

    def test_stored_just_ahead(self):
        store = "place 0 7; num 1; index 1 3; {}; store; "
        load = "place 0 7; num 1; index 1 3; load"
        left = store.format("num 6") + "place 0 1; " + load + "; num 3; writen"
        self.sewn(left, store.format("num 6") + WRITE.format("num 6"))
        # Behind another deed, or from another place, it is met.
        self.refused_by("event", store.format("num 6") + "place 0 1; writeln; " + WRITE.format(load),
            store.format("num 6") + "place 0 1; writeln; " + WRITE.format("num 6"))
        self.refused_by("event", store.format("num 6") + WRITE.format(load.replace("num 1", "num 2")),
            store.format("num 6") + WRITE.format("num 6"))
        # An index by another term of the same number is the same place.
        other = "place 0 2; num 1; store; " + store.format("num 6") + WRITE.format(load.replace("num 1", "place 0 2; load"))
        self.sewn(other, store.format("num 6") + WRITE.format("num 6"))

    def test_calls(self):
        more = proc("p1", "p0", "n", "n", "n", ["place 0 1", "place 0 0", "load", "store", "leave"])
        self.assertTrue(self.written("num 4; call p1; dup; add", "num 3; num 1; add; call p1; num 2; mul", more=more))
        twice = f"{READ}; look 0 9; call p1; {READ}; look 0 9; call p1; "
        self.assertFalse(self.written(twice + "sub", twice + "drop; drop; num 0", more=more))
        # Claims tell what a result surely is.
        self.assertTrue(self.written("num 4; call p1; num 4; call p1; sub", "num 4; call p1; num 4; call p1; drop; drop; num 0", more=more))
        self.refused_by("event", "num 4; call p1; drop", "num 5; call p1; drop", more=more)
        self.refused_by("event", "num 4; call p1; drop", "num 4; drop", more=more)
        handed = "hand p1 g0; {}; callh g0; drop"
        self.sewn(handed.format("num 4"), handed.format("num 2; num 2; add"), more=more)
        twin = proc("p2", "p0", "n", "n", "n", ["place 0 1", "place 0 0", "load", "store", "leave"])
        self.refused_by("event", handed.format("num 4"), handed.format("num 4").replace("p1", "p2"), more=more + twin)

    def test_windows(self):
        names = "<n> n n"
        load = "place 0 0; window; load; drop"
        # A load through a window looks: it is a deed, not to be left out.
        self.refused_by("event", "place 0 0; reset; " + load, "place 0 0; reset", names=names)
        self.sewn("place 0 0; reset; " + load, "place 0 0; reset; " + load, names=names)
        self.refused_by("event", f"place 0 0; reset; {load}; {load}", f"place 0 0; reset; {load}", names=names)
        self.sewn("place 0 0; rewrite; place 0 0; window; num 4; store; place 0 0; window; load; num 1; add; drop",
                  "place 0 0; rewrite; place 0 0; window; num 4; store; " + load, names=names)

    def test_deeds(self):
        for row in ("place 0 7; num 1; index 1 3; num 4; store", "place 0 7; dup; move", "place 0 7; unset",
            "place 0 8; field 1; become 1", "place 0 8; num 1; lives 0",
                    "place 0 9; new", "nil l0; gone", "place 0 0; reset", "place 0 1; rewrite", "place 0 0; get", "place 0 1; put",
                    "place 0 0; eof; drop", "place 0 0; eoln; drop",
                    "place 0 0; readn; drop", "place 0 0; readc; drop", "place 0 0; readln", "place 0 1; writeln",
                    "place 0 1; num 1; num 1; writen", "place 0 1; truth 1; num 1; writet",
                    "place 0 1; sign 65; num 1; writec", "place 0 1; string 65; num 1; writes"):
            self.sewn(row, row)
            self.refused_by("event", row, "num 1; drop")
            self.refused_by("event", f"{row}; {row}", row)
        self.refused_by("event", "place 0 8; field 1; become 1", "place 0 8; field 1; become 0")
        self.refused_by("event", "place 0 8; num 1; lives 0 1 1", "place 0 8; num 1; lives 1 1 1")


class FreshSignsTest(Judging, unittest.TestCase):
    NAMES = "<text> <text> 2*c 2*c &2*c"

    def fresh(self, word, left, right=None, *seam, **told):
        found = self.judge(left, left if right is None else right, *seam, names=self.NAMES, **told)
        self.assertEqual(found, ("sewn",) if word is None else ("not", "p0", 0, word))

    def test_told_by_signs(self):
        self.fresh(None, "place 0 2; string 65 66; move")
        self.fresh("event", "place 0 2; string 65 66; move", "place 0 2; string 65 67; move")
        self.fresh(None, "place 0 1; string 65; num 1; writes; place 0 1; string 65; num 1; writes",
            "place 0 1; string 65; dup; drop; num 1; writes; place 0 1; string 65; num 1; writes")
        self.fresh(None, "place 0 2; string 65 66; text eq; drop")

    def test_what_is_refused(self):
        self.fresh("event", "string 65 66; num 1; index 1 2; sign 67; store")
        self.fresh("event", "string 65 66; unset")
        self.fresh("event", "string 65 66; place 0 2; move")
        self.fresh("event", "string 65 66; bind 4")
        self.fresh("event", "string 65 66; bind 4; place 0 4; drop", more=proc("p1", "p0", "", "-", "", ["place 1 4", "drop", "leave"]))
        more = proc("p1", "p0", "&2*c", "-", "", ["leave"])
        self.fresh("event", "string 65 66; call p1", more=more)
        # Copied signs are no place that is handed.
        more = proc("p1", "p0", "2*c", "-", "", ["leave"])
        self.fresh(None, "string 65 66; call p1", more=more)

    def test_rows_of_things(self):
        seam = "proc p0; match 0 0; match 2 2; work w0; work w1"
        twice, dup = "string 65 66; string 65 66; drop; drop", "string 65 66; dup; drop; drop"
        self.fresh(None, twice, twice, seam)
        self.fresh(None, dup, dup, seam)
        self.fresh("term", twice, dup, seam)
        self.fresh("term", dup, twice, seam)
        self.fresh(None, twice, twice, "proc p0; match 0 0; match 2 2; work w1; work w0")
        # Among the signs of one row, too.
        parts = "string 65 66; {}num 1; index 1 2; drop; drop"
        self.fresh("term", parts.format("dup; "), parts.format("string 65 66; "), "proc p0; match 0 0; match 4 4; work w0; work w1")


class HiddenNamesTest(Judging, unittest.TestCase):
    NAMES = "<text> <text> n n &n &n 3*n"

    def hidden(self, word, left, right, *seam, number=0, **told):
        found = self.judge(left, right, *seam, names=self.NAMES, **told)
        self.assertEqual(found, ("sewn",) if word is None else ("not", "p0", number, word), (left, right))

    def test_private_ones(self):
        bind = "place 0 6; num 1; index 1 3; bind 4; "
        self.hidden(None, bind + "place 0 4; num 5; store", "place 0 6; num 1; index 1 3; num 5; store")
        self.hidden(None, bind + "place 0 4; num 5; store; place 0 4; num 6; store", bind + "place 0 4; dup; num 5; store; num 6; store")
        self.hidden("event", bind + "place 0 4; num 5; store", "place 0 6; num 2; index 1 3; num 5; store")
        # Unbound, it may trap.
        self.hidden(None, "place 0 4; drop", "place 0 4; drop")
        self.hidden("event", "place 0 4; drop", "")
        self.hidden("event", "place 0 4; drop", "place 0 5; drop")
        self.hidden(None, "place 0 4; drop; place 0 4; drop", "place 0 4; drop")

    def test_at_matches(self):
        rows = "place 0 6; num 1; index 1 3; bind 4; place 0 0; eof; drop; place 0 4; num 5; store"
        self.hidden(None, rows, rows, "proc p0; match 0 0; match 7 7")
        # What is not claimed to be bound is told by the left's name; a name that is told by a place is bound.
        straight = rows.replace("place 0 4; num 5", "place 0 6; num 1; index 1 3; num 5")
        self.hidden("event", rows, straight, "proc p0; match 0 0; match 7 7", number=1)
        self.hidden("event", rows, rows, "proc p0; match 0 0; match 7 7; name 4 index(place(0,6),num(1),1,3)", number=1)
        self.hidden("term", rows, rows, "proc p0; match 0 0; match 7 7; name 4 index(place(0,6),num(2),1,3)")
        twins = "place 0 6; num 1; index 1 3; dup; bind 4; bind 5; place 0 0; eof; drop; place 0 {}; num 5; store"
        self.hidden(None, twins.format(4), twins.format(5), "proc p0; match 0 0; match 9 9; name 5 n4")
        self.hidden(None, twins.format(4), twins.format(5), "proc p0; match 0 0; match 9 9; name 5 place(0,4)")
        self.hidden("event", twins.format(4), twins.format(5), "proc p0; match 0 0; match 9 9", number=1)
        self.hidden("lost" , twins.format(4), twins.format(5), "proc p0; match 0 0; match 9 9; lost 5", number=1)

    def test_those_that_others_tell(self):
        more = proc("p1", "p0", "", "-", "", ["place 1 4", "drop", "leave"])
        bind = "place 0 6; num 1; index 1 3; bind 4; "
        self.hidden(None, bind + "place 0 4; num 5; store", bind + "place 0 6; num 1; index 1 3; num 5; store", more=more)
        # The bind itself is a deed.
        self.hidden("event", bind + "num 1; drop", "num 1; drop", more=more)
        self.hidden(None, "place 0 4; drop; place 0 4; drop", "place 0 4; drop", more=more)
        self.hidden("event", "place 0 4; drop", "", more=more)
        # What a seam tells of it is what it holds at the match, behind the bind.
        rows = "place 0 6; num {}; index 1 3; bind 4; place 0 6; num 2; index 1 3; num 5; drop; drop"
        seam = "proc p0; match 0 0; match 7 7; work place(0,4); proc p1; match 0 0"
        self.hidden(None, rows.format(2), rows.format(2), seam, more=more)
        self.hidden("term", rows.format(1), rows.format(1), seam, more=more)
        old = "place 0 4; place 0 6; num 1; index 1 3; bind 4; num 5; store"
        seam = "proc p0; match 0 0; match 5 5; work {}; proc p1; match 0 0"
        self.hidden(None, old, old, seam.format("w0"), more=more)
        self.hidden("term", old, old, seam.format("place(0,4)"), more=more)
        own = proc("p1", "p0", "", "-", "", "place 1 4; drop; place 1 4; drop; leave".split("; "))
        once = proc("p1", "p0", "", "-", "", ["place 1 4", "drop", "leave"])
        self.hidden(None, "call p1", "call p1", more=own, others=once)

    def test_names_that_are_private_in_one_alone(self):
        # Name 2 is private in the left alone: its stores are deeds.
        rows = "place 0 2; num 4; store; place 0 2; num 5; store"
        self.hidden("event", rows, "place 0 2; num 5; store; place 0 2; bind 4")
        self.hidden(None, "place 0 2; num 4; store", "place 0 2; num 4; store; place 0 2; bind 4")


class FarLabelsTest(Judging, unittest.TestCase):
    MORE = proc("p1", "p0", "", "-", "", ["far 1 3"])

    def test_ways_begin_there(self):
        rows = "call p1; trap case; label 3; {}"
        self.sewn(rows.format(WRITE.format("num 5")), rows.format(WRITE.format("num 2; num 3; add")), more=self.MORE)
        self.refused_by("event", rows.format(WRITE.format("num 5")), rows.format(WRITE.format("num 6")), more=self.MORE, number=1)
        seam = "proc p0; match 0 0; match 1 1; proc p1; match 0 0"
        self.refused_by("event", rows.format(WRITE.format("num 5")), rows.format(WRITE.format("num 6")), seam, more=self.MORE, number=2)
        # Nothing is known there of names but that both hold the same.
        named = "place 0 2; num 4; store; " + rows.format(WRITE.format("place 0 2; load"))
        self.sewn(named, named, more=self.MORE)
        self.refused_by("event", named, named.replace("place 0 2; load", "num 4"), more=self.MORE, number=1)

    def test_none_ends_there(self):
        # The way from match 0 goes on over the label, to the end; it is told there with the lines of its own.
        rows = "place 0 0; eof; unless 3; call p1; trap case; label 3; {}"
        self.sewn(rows.format(WRITE.format("num 5")), rows.format(WRITE.format("num 5")), more=self.MORE)
        other = "place 0 0; eof; unless 4; call p1; trap case; label 3; " + WRITE.format("num 5") + "; leave; label 4; " + WRITE.format("num 5")
        self.sewn(rows.format(WRITE.format("num 5")), other, more=self.MORE)
        # Told as a match, it ends ways: the right must come to its label, too.
        seam = "proc p0; match 0 0; match 5 5; proc p1; match 0 0"
        self.sewn(rows.format(WRITE.format("num 5")), rows.format(WRITE.format("num 5")), seam, more=self.MORE)
        self.refused_by("place", rows.format(WRITE.format("num 5")), other, seam, more=self.MORE)

    def test_several_labels(self):
        more = proc("p1", "p0", "", "-", "", ["truth 1", "unless 1", "far 1 9", "label 1", "far 1 3"])
        rows = "call p1; trap case; label 3; place 0 1; writeln; trap file; label 9; {}"
        self.refused_by("event", rows.format("trap case"), rows.format("trap file"), more=more, number=2, last="")
        never = proc("p1", "p0", "", "-", "", ["truth 1", "unless 1", "leave", "label 1", "far 1 3"])
        self.sewn(rows.format("trap case"), rows.format("trap case"), more=never, last="")

    def test_lines_there(self):
        rows = "line 4; call p1; trap case; label 3; {}" + WRITE.format("num 5")
        self.sewn(rows.format(""), rows.format(""), more=self.MORE)
        self.refused_by("event", rows.format(""), rows.format("line 4; "), more=self.MORE, number=1)


class WideTest(Judging, unittest.TestCase):
    def wide(self, left, right=None, *seam, **told):
        right = left if right is None else right
        self.refused(Wide, 80, self.judge, left, right, *seam, **told)

    def some_tests(self, many):
        """So many tests, one behind the other, of things that are read."""
        return "; ".join([f"place 0 0; eof; unless {at}; label {at}" for at in range(many)])

    def test_ways(self):
        self.sewn(self.some_tests(6), self.some_tests(6))
        self.wide(self.some_tests(7))
        # Sixty-four numbers, the trap, and fifteen ways more are eighty.
        labels = " ".join(["1"] * 64)
        for many in (15, 16):
            tests = "; ".join([f"place 0 0; eof; unless {at}; trap case; label {at}" for at in range(10, 10 + many)])
            rows = f"{tests}; {READ}; table 1 {labels}; label 1"
            if many == 15:
                self.sewn(rows, rows)
            else:
                self.wide(rows)

    def test_rows_gone_by_twice(self):
        # Row 0 is matched: ways end where they come to it again.
        loop = "label 1; place 0 0; eof; unless 1"
        self.sewn(loop, loop)
        self.wide("num 1; drop; " + loop)
        self.sewn("num 1; drop; " + loop, "num 1; drop; " + loop, "proc p0; match 0 0; match 3 3")
        # A right that goes round.
        self.wide("place 0 1; writeln; num 1; drop", "place 0 1; writeln; label 1; truth 0; unless 1", last="leave")
        self.sewn("label 1; jump 1", "label 1; jump 1", last="")
        self.wide("num 1; drop; label 1; jump 1", last="")

    def test_deep_terms(self):
        for many in (10, 11, 12):
            rows = "place 0 2; place 0 0; readn; store; place 0 1; place 0 2; load" + "; abs" * many + "; num 3; writen"
            if many < 11:
                self.sewn(rows, rows)
            else:
                self.wide(rows)
        # Sums and nots are as deep as their parts.
        for row in ("num 1; add; neg", "num 2; mul; num 1; sub"):
            rows = "place 0 2; place 0 0; readn; look 0 9; store; place 0 1; place 0 2; load; " + "; ".join([row] * 8) + "; num 3; writen"
            self.sewn(rows, rows)
        rows = "place 0 1; place 0 0; eof" + "; not" * 15 + "; num 5; writet"
        self.sewn(rows, rows)

    def test_deep_terms_of_seams(self):
        # The left's name 2 is eight deep there: told six deep, that is thirteen.
        left = "place 0 2; place 0 0; readn" + "; abs" * 6 + "; store; num 1; drop"
        right = left[:-len("num 1; drop")] + "place 0 10; num 1; store; num 1; drop"
        seam = "proc p0; match 0 0; match 10 13; name 10 {}"
        self.refused_by("term", left, right, seam.format("abs(abs(abs(abs(n2))))"), own="n")
        self.wide(left, right, seam.format("abs(abs(abs(abs(abs(n2)))))"), own="n")


class FittingTest(Judging, unittest.TestCase):
    def unfit(self, number, rows, *seam, left="place 0 2; num 4; store; num 1; drop", right=None, **told):
        self.refused(BadSeam, number, self.judge, left, left if right is None else right, "; ".join(seam), **told)

    def test_rows_that_do_not_fit(self):
        self.unfit(1, None, "proc p1", "match 0 0")
        self.unfit(3, None, "proc p0", "match 0 0", "proc p1", "match 0 0")
        more = proc("p1", "p0", "", "-", "", ["leave"])
        self.unfit(3, None, "proc p0", "match 0 0", more=more)
        self.unfit(3, None, "proc p0", "match 0 0", "proc p2", "match 0 0", more=more)
        self.unfit(1, None, "proc p1", "match 0 0", "proc p0", "match 0 0", more=more)
        self.unfit(3, None, "proc p0", "match 0 0", "match 6 3")
        self.unfit(3, None, "proc p0", "match 0 0", "match 3 99")
        self.unfit(3, None, "proc p0", "match 0 0", "match 4 4")
        self.unfit(3, None, "proc p0", "match 0 0", "match 3 3", "work w0")
        self.unfit(4, None, "proc p0", "match 0 0", "match 3 3", "match 4 4", "work w0", "work w0")
        self.unfit(4, None, "proc p0", "match 0 0", "match 4 4", "work w1")
        self.unfit(3, None, "proc p0", "match 0 0", "match 5 6", left="place 0 1; writeln; jump 1; num 1; drop; trap case; label 1")
        self.unfit(3, None, "proc p0", "match 0 0", "match 6 5", left="place 0 1; writeln; jump 1; num 1; drop; trap case; label 1")

    def test_sorts_of_works(self):
        left = "num 1; truth 1; sign 65; set 1; nil l0; place 0 2; place 0 7; hand p1 g0; drop; drop; drop; drop; drop; drop; drop; drop"
        more = proc("p1", "p0", "n", "n", "n", ["place 0 1", "num 1", "store", "leave"])
        terms = ["num(1)", "truth(1)", "sign(65)", "set(1)", "nil(l0)", "place(0,2)", "place(0,7)", "hand(p1,g0)"]
        seam = ["proc p0", "match 0 0", "match 8 8", *["work " + term for term in terms], "proc p1", "match 0 0"]
        self.sewn(left, left, "; ".join(seam), more=more)
        for at, term in enumerate(terms):
            for other in (terms + ["n2", "w0", "n4", "n5"]):
                told = list(seam)
                told[3 + at] = "work " + other
                fits = other.split("(")[0] == term.split("(")[0] and other not in ("place(0,2)", "place(0,7)") or other == term
                fits = fits or (at, other) in ((0, "n2"), (0, "w0"), (1, "n4"), (2, "n5"))
                if not fits:
                    self.unfit(4 + at, None, *told, left=left, more=more)

    def test_terms_that_do_not_fit(self):
        for term in ("n0", "n6", "n7", "n9", "n10", "n99", "w1", "add(num(1),truth(1))", "add(n2,n4)", "neg(set(1))",
            "field(place(0,7),0)", "place(1,0)", "place(0,99)", "handed(0,2)",
                     "hand(p1,g0)", "hand(p0,g0)", "nil(l9)", "index(place(0,7),num(1),1,4)", "arm(field(place(0,8),1),2)",
                     "window(place(0,2))", "eq(num(1),sign(65))",
                     "same(nil(l0),nil(l1))", "in(num(1),num(2))", "truth(1)", "set(1)", "eq(num(1),num(2))", "chr(num(65))"):
            self.unfit(4, None, "proc p0", "match 0 0", "match 4 4", "work " + term)
            self.unfit(4, None, "proc p0", "match 0 0", "match 3 3", "name 2 " + term)
        for term in ("ordt(eq(num(1),num(2)))", "ordc(chr(n2))", "mod(div(n2,num(3)),abs(n3))", "sqr(n2)", "ordt(in(n2,set(1)))",
                "ordt(same(nil(l0),nil(l0)))", "ordt(not(n4))"):
            self.judge("num 1; drop", "num 1; drop", f"proc p0; match 0 0; match 1 1; work {term}")

    def test_names(self):
        for row in ("lost 0", "lost 6", "lost 7", "lost 10", "lost 99"):
            self.unfit(3, None, "proc p0", "match 0 0", row)
            self.unfit(4, None, "proc p0", "match 0 0", "match 3 3", row)
        self.unfit(4, None, "proc p0", "match 0 0", "match 3 3", "name 10 num(1)")
        self.unfit(5, None, "proc p0", "match 0 0", "match 3 3", "name 2 num(4)", "name 4 num(1)")
        self.unfit(4, None, "proc p0", "match 0 0", "match 3 3", "name 10 n10", own="n")
        left = "place 0 2; num 4; store; num 1; drop"
        self.sewn(left, left, "proc p0; match 0 0; lost 10; match 3 3; lost 10", own="n")
        # A name that is private in the left alone is none of the pair.
        self.unfit(3, None, "proc p0", "match 0 0", "lost 2", names=NAMES + " &n",
            right="place 0 2; num 4; store; place 0 2; bind 10; num 1; drop")

    def test_errors_in_their_sequence(self):
        wrong = Unit("proc p0 -\ntakes\ngives -\nnames\nfiles\nwork 0\ndrop\nleave\nend")
        needing = Unit("needs q p0 takes gives -\nproc p0 -\ntakes\ngives -\nnames\nfiles\nwork 0\ndrop\nleave\nend")
        right = Unit("proc p0 -\ntakes\ngives -\nnames\nfiles\nwork 0\nleave\nend")
        self.refused(NotWhole, ("q",), judged, needing, wrong, 3)
        self.refused(NotLet, checked(wrong), judged, wrong, needing, 3)
        self.refused(NotWhole, ("q",), judged, right, needing, 3)
        self.refused(NotLet, checked(wrong), judged, right, wrong, 3)
        for value in (3, None, "proc p0\nmatch 0 0", ()):
            self.refused(BadSeam, 0, judged, right, right, value)

    def test_units_that_are_no_pair(self):
        text = "layout l0 n\nsignature g0 takes n gives -\nproc p0 -\ntakes\ngives -\nnames <text> n\nfiles f\nwork 3\nleave\nend\nproc p1 p0\ntakes n\ngives n\nnames n\nwork 2\nleave\nend"
        left = Unit(text)
        for one, other in (("layout l0 n", "layout l0 t"), ("layout l0 n\n", ""), ("signature g0 takes n", "signature g0 takes t"),
            ("p1 p0", "p2 p0"), ("takes n\ngives n", "takes t\ngives n"),
                           ("gives n\nnames n", "gives t\nnames t"), ("files f", "files g"), ("names <text> n", "names <text> t"),
                           ("names <text> n", "names <text>")):
            right = Unit(text.replace(one, other))
            self.refused(BadValue, right, judged, left, right, 3)
        for one, other in (("work 3", "work 9"), ("names <text> n", "names <text> n t"), ("names n\nwork", "names n c\nwork")):
            right = Unit(text.replace(one, other))
            self.assertEqual(judged(left, right, Seam("proc p0\nmatch 0 0\nproc p1\nmatch 0 0")), ("sewn",))
        right = Unit(text.replace("names <text> n", "names <text> n t"))
        self.refused(BadValue, left, judged, right, left, 3)
        both = Unit(text + "\nproc p2 p0\ntakes\ngives -\nnames\nwork 0\nleave\nend")
        self.refused(BadValue, both, judged, left, both, 3)


class WaysTest(Judging, unittest.TestCase):
    def test_rows_without_claims(self):
        # Never come to by claims: nothing is compared.
        rows = "truth 1; unless 1; leave; label 1; {}; num 1; drop"
        self.sewn(rows.format(WRITE.format("num 1")), rows.format(WRITE.format("num 2")))
        self.sewn(rows.format(WRITE.format("num 1")), rows.format(WRITE.format("num 2")), "proc p0; match 0 0; match 4 4")
        more = proc("p1", "p0", "", "-", "", ["place 1 1", "writeln", "leave"])
        others = proc("p1", "p0", "", "-", "", ["place 1 1", "rewrite", "leave"])
        self.sewn("num 1; drop", "num 1; drop", "proc p0; match 0 0; proc p1; match 0 0", more=more, others=others)
        self.refused_by("event", "call p1", "call p1", "proc p0; match 0 0; proc p1; match 0 0", more=more, others=others, name="p1")

    def test_ways_that_surely_trap(self):
        rows = READ + "; num 0; div; {}"
        self.sewn(rows.format("drop; " + WRITE.format("num 1")), rows.format("drop; " + WRITE.format("num 2")))
        self.refused_by("event", rows.format("drop"), rows.replace("div", "mod").format("drop"))
        never = proc("p1", "p0", "", "-", "", ["label 1", "jump 1"])
        seam = "proc p0; match 0 0; proc p1; match 0 0; match 1 1"
        self.sewn("call p1; " + WRITE.format("num 1"), "call p1; " + WRITE.format("num 2"), seam, more=never)

    def test_stretches_that_end_ways(self):
        # Below 3 and not below 5: this way is none, of it nothing is compared.
        rows = f"place 0 2; {READ}; store; place 0 2; load; num 3; lt; unless 1; place 0 2; load; num 5; lt; unless 2; leave; label 2; {{}}; label 1"
        self.sewn(rows.format("trap case"), rows.format("trap file"))
        other = rows.replace("num 5; lt", "num 2; lt")
        self.refused_by("event", other.format("trap case"), other.format("trap file"))

    def test_ways_gone_ahead(self):
        rows = f"place 0 2; {READ}; store; place 0 3; {READ}; store; place 0 2; load; place 0 3; load; lt; unless 1; " \
               "place 0 3; load; place 0 2; load; le; unless 2; {}; label 2; leave; label 1"
        self.sewn(rows.format("trap case"), rows.format("trap file"))
        table = f"place 0 2; {READ}; store; place 0 2; load; table 1 1 2; label 1; place 0 2; load; table 1 3 4; label 2; leave; label 4; {{}}; label 3"
        self.sewn(table.format("trap case"), table.format("trap file"))

    def test_far_and_leave_are_events(self):
        result = [proc("p1", "p0", "", "n", "n", ["place 0 0", row, "store", "leave"]) for row in ("num 4", "num 5")]
        self.refused_by("event", "call p1; drop", "call p1; drop", "proc p0; match 0 0; proc p1; match 0 0", more=result[0],
            others=result[1], name="p1")
        sums = proc("p1", "p0", "", "n", "n", ["place 0 0", "num 3", "num 1", "add", "store", "leave"])
        self.sewn("call p1; drop", "call p1; drop", "proc p0; match 0 0; proc p1; match 0 0", more=result[0], others=sums)
        far = [proc("p1", "p0", "", "-", "", [row]) for row in ("far 1 3", "far 1 4")]
        rows = "call p1; label 3; label 4"
        self.refused_by("event", rows, rows, "proc p0; match 0 0; proc p1; match 0 0", more=far[0], others=far[1], name="p1")

    def test_results_that_may_be_unset(self):
        rows = ["place 1 0", "eof", "unless 1", "place 0 0", "num 4", "store", "label 1", "leave"]
        more = proc("p1", "p0", "", "n", "n", rows)
        self.sewn("call p1; drop", "call p1; drop", more=more)
        always = proc("p1", "p0", "", "n", "n", ["place 1 0", "eof", "drop", "place 0 0", "num 4", "store", "leave"])
        self.refused_by("event", "call p1; drop", "call p1; drop", more=more, others=always, name="p1")
        never = proc("p1", "p0", "", "n", "n", ["leave"])
        self.sewn("call p1; drop", "call p1; num 1; drop; drop", more=never)


if __name__ == "__main__":
    unittest.main()
