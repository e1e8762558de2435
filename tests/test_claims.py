"""Point 18: claims: each row of the table, joining, calls, and in whatever sequence rows are gone."""

import random
import unittest

from begunended.checking import checked
from begunended.compiling import compiled
from begunended.errors import NoProc, NoRow, NotLet, NotWhole, StageError
from begunended.program import Program
from begunended.settling import Reckoning, settled
from begunended.states import joined_states
from begunended.surely import all_claims, claims, closed, sure_rows
from begunended.units import Unit
from tests.machines import Machines, proc, unit_of_rows
from tests.random_programs import random_program

MAXINT = 2147483647
FULL = (-MAXINT, MAXINT)
# A number from a file, at row 2 behind these rows.
READ = ["place 0 0", "readn"]


class Claiming(Machines):
    """For test cases: what is claimed behind rows."""

    def state(self, rows, names="", files="", more=(), signatures=("signature g0 takes n gives n",)):
        """What is claimed behind rows, ahead of a trap."""
        unit = unit_of_rows([*rows, "trap case"], names, files, more, signatures)
        self.assertEqual(checked(unit)[0], "let", checked(unit))
        return claims(unit, "p0", len(rows))

    def upper(self, rows, names="<text> n n t c", **told):
        """What is claimed of the upper cell."""
        return self.state(rows.split("; "), names, **told)[1][-1]

    def stretch(self, rows, **told):
        low, high, stem, tests = self.upper(rows, **told)
        self.assertEqual((stem, tests), (None, ()), rows)
        return low, high

    def between(self, low, high):
        """Rows that leave some number of a stretch, without a stem."""
        return f"place 0 0; readn; look {low} {high}"


class OrdersTest(Claiming, unittest.TestCase):
    def test_told_values(self):
        self.assertEqual(self.stretch("num 77"), (77, 77))
        self.assertEqual([self.stretch("truth 0"), self.stretch("truth 1"), self.stretch("sign 70")], [(0, 0), (1, 1), (70, 70)])
        self.assertIsNone(self.upper("set 1"))
        self.assertIsNone(self.upper("place 0 1"))
        self.assertEqual([self.stretch(rows) for rows in ("place 0 0; readn", "place 0 0; readc", "place 0 0; eof")],
            [FULL, (32, 126), (0, 1)])

    def test_looks(self):
        self.assertEqual(self.stretch(self.between(3, 9)), (3, 9))
        self.assertEqual(self.stretch(self.between(3, 9) + "; look 5 20"), (5, 9))
        self.assertIsNone(self.state((self.between(3, 9) + "; look 10 20").split("; "), "<text>"))
        self.assertEqual(self.stretch("place 0 0; readn; chr"), (32, 126))
        self.assertEqual(self.stretch(self.between(40, 200) + "; chr"), (40, 126))
        self.assertIsNone(self.state((self.between(0, 31) + "; chr").split("; "), "<text>"))
        self.assertEqual(self.stretch("place 0 0; readn; tru"), (0, 1))
        self.assertEqual(self.stretch(self.between(1, 9) + "; tru"), (1, 1))
        self.assertEqual(self.stretch("place 0 0; readc; ordc"), (32, 126))
        self.assertEqual(self.stretch("place 0 0; eof; ordt"), (0, 1))
        self.assertIsNone(self.state(["place 0 1", "num 4", "index 1 3"], "<text> 3*n"))
        self.assertEqual(self.state(["place 0 1", "num 3", "index 1 3"], "<text> 3*n"), ((), (None,)))

    def test_sums(self):
        one, other = self.between(3, 9), self.between(20, 30)
        # What comes is widened to ends: those of these rows are 2..4, 8..10, 19..21, 29..31, of all units 31..33.
        self.assertEqual(self.stretch(f"{one}; {other}; add"), (21, 125))
        self.assertEqual(self.stretch(f"{other}; {one}; sub"), (10, 29))
        self.assertEqual(self.stretch(f"{one}; {other}; sub"), (-MAXINT + 1, -1))
        self.assertEqual(self.stretch(f"{one}; {one}; mul"), (9, 125))
        self.assertEqual(self.stretch(f"{self.between(-3, 9)}; {self.between(-4, 5)}; mul"), (1 - MAXINT, 125))
        big = self.between(MAXINT - 5, MAXINT)
        self.assertEqual(self.stretch(f"{big}; {self.between(0, 9)}; add"), (MAXINT - 5, MAXINT))
        self.assertIsNone(self.state(f"{big}; num 6; add".split("; "), "<text>"))
        self.assertIsNone(self.state(f"{big}; {self.between(-9, -6)}; sub".split("; "), "<text>"))
        self.assertIsNone(self.state(f"{big}; num 2; mul".split("; "), "<text>"))
        self.assertEqual(self.stretch(f"{big}; num -1; mul"), (-MAXINT, -2))

    def test_quotients(self):
        self.assertEqual(self.stretch(f"{self.between(10, 20)}; {self.between(2, 5)}; div"), (2, 10))
        self.assertEqual(self.stretch(f"{self.between(10, 20)}; {self.between(-2, 5)}; div"), (1 - MAXINT, 20))
        self.assertEqual(self.stretch(f"{self.between(-7, 20)}; num 2; div"), (-6, 19))
        self.assertEqual(self.stretch(f"{self.between(10, 20)}; {self.between(0, 5)}; div"), (2, 20))
        self.assertIsNone(self.state(f"{self.between(10, 20)}; num 0; div".split("; "), "<text>"))

    def test_rests(self):
        self.assertEqual(self.stretch(f"{self.between(2, 5)}; {self.between(6, 9)}; mod"), (2, 5))
        self.assertEqual(self.stretch(f"{self.between(2, 6)}; {self.between(6, 9)}; mod"), (0, 6))
        self.assertEqual(self.stretch(f"{self.between(2, 20)}; {self.between(6, 9)}; mod"), (0, 8))
        self.assertEqual(self.stretch(f"{self.between(-2, 5)}; {self.between(6, 9)}; mod"), (0, 8))
        self.assertEqual(self.stretch(f"{self.between(2, 5)}; {self.between(-6, 9)}; mod"), (0, 5))
        self.assertIsNone(self.state(f"{self.between(2, 5)}; {self.between(-6, 0)}; mod".split("; "), "<text>"))

    def test_single_numbers(self):
        self.assertEqual(self.stretch(self.between(-9, 3) + "; neg; look -3 9"), (-3, 9))
        self.assertEqual(self.stretch(self.between(-9, 3) + "; neg"), (-8, 31))
        self.assertEqual(self.stretch(self.between(-9, 3) + "; num 9; drop; abs"), (0, 9))
        self.assertEqual(self.stretch(self.between(-9, -4) + "; num 9; num 4; drop; drop; abs"), (4, 9))
        self.assertEqual(self.stretch(self.between(4, 9) + "; abs"), (4, 9))
        self.assertEqual(self.stretch(self.between(-3, 2) + "; num 9; drop; sqr"), (0, 9))
        self.assertEqual(self.stretch(self.between(46340, 50000) + "; sqr"), (50001, MAXINT))
        self.assertIsNone(self.state((self.between(46341, 50000) + "; sqr").split("; "), "<text>"))
        self.assertEqual([self.stretch(f"num {n}; odd") for n in (3, 4, -3)], [(1, 1), (0, 0), (1, 1)])
        self.assertEqual(self.stretch(self.between(3, 4) + "; odd"), (0, 1))

    def test_comparisons(self):
        pairs = {((3, 5), (6, 9)): "ne lt le", ((6, 9), (3, 5)): "ne gt ge", ((3, 6), (6, 9)): "le", ((6, 9), (3, 6)): "ge",
                 ((4, 4), (4, 4)): "eq le ge"}
        nones = {((3, 5), (6, 9)): "eq gt ge", ((6, 9), (3, 5)): "eq lt le", ((3, 6), (6, 9)): "gt", ((6, 9), (3, 6)): "lt",
                 ((4, 4), (4, 4)): "ne lt gt"}
        for (one, other), words in pairs.items():
            for word in ("eq", "ne", "lt", "le", "gt", "ge"):
                told = (1, 1) if word in words.split() else (0, 0) if word in nones[one, other].split() else (0, 1)
                self.assertEqual(self.stretch(f"{self.between(*one)}; {self.between(*other)}; {word}"), told, (one, other, word))
        self.assertEqual(self.stretch("truth 0; truth 1; lt"), (1, 1))
        self.assertEqual(self.stretch("sign 70; sign 69; le"), (0, 0))

    def test_truths(self):
        some = "place 0 0; eof"
        self.assertEqual([self.stretch("truth 0; not"), self.stretch("truth 1; not"), self.stretch(some + "; not")],
            [(1, 1), (0, 0), (0, 1)])
        self.assertEqual(self.stretch(f"{some}; truth 0; and"), (0, 0))
        self.assertEqual(self.stretch(f"truth 1; {some}; and"), (0, 1))
        self.assertEqual(self.stretch(f"{some}; truth 1; or"), (1, 1))
        self.assertEqual(self.stretch(f"truth 0; {some}; or"), (0, 1))

    def test_orders_of_which_nothing_is_known(self):
        self.assertEqual(self.stretch("num 3; set 3; in"), (0, 1))
        self.assertEqual(self.stretch("set; set; seq"), (0, 1))
        self.assertEqual(self.stretch("nil l0; nil l0; same"), (0, 1))
        self.assertEqual(self.stretch("string 65; string 65; text eq"), (0, 1))
        self.assertEqual(self.stretch("place 0 1; field 0; load", names="<text> (n)"), FULL)
        self.assertEqual(self.state("num 3; dup; num 4; one; place 0 0; num 5".split("; "), "<text>")[1],
                         ((3, 3, None, ()), (3, 3, None, ()), None, None, (5, 5, None, ())))


class NamesTest(Claiming, unittest.TestCase):
    def names(self, rows, names="<text> n n"):
        return self.state(rows.split("; "), names)[0]

    def test_load_store_unset(self):
        self.assertEqual(self.names("num 4; drop"), ((1, False, None, None), (2, False, None, None)))
        self.assertEqual(self.names("place 0 1; num 4; store"), ((1, True, 4, 4), (2, False, None, None)))
        self.assertEqual(self.names("place 0 1; num 4; store; place 0 1; unset")[0], (1, False, None, None))
        self.assertIsNone(self.state("place 0 1; load".split("; "), "<text> n"))
        self.assertEqual(self.upper("place 0 1; num 4; store; place 0 1; load"), (4, 4, (1, 0), ()))
        self.assertEqual(self.names("place 0 1; " + self.between(3, 9) + "; store")[0], (1, True, 3, 9))
        self.assertEqual(self.names("place 0 1; place 0 0; readc; store", "<text> c"), ((1, True, 32, 126),))

    def test_load_makes_set(self):
        rows = "place 0 0; eof; unless 1; place 0 1; num 4; store; label 1"
        self.assertEqual(self.names(rows)[0], (1, False, 4, 4))
        self.assertEqual(self.names(rows + "; place 0 1; load; drop")[0], (1, True, 4, 4))

    def test_names_that_are_not_private_are_not_told(self):
        self.assertEqual(self.names("place 0 1; bind 3", "<text> n n &n"), ((2, False, None, None),))
        self.assertEqual(self.upper("place 0 1; num 4; store; place 0 1; dup; bind 3; load", names="<text> n n &n"), (*FULL, None, ()))


class StemsTest(Claiming, unittest.TestCase):
    GET = "place 0 1; {}; store; place 0 1; load"

    def got(self, low, high):
        """Rows behind which name 1 is from low to high, and its value lies there with its stem."""
        return self.GET.format(self.between(low, high))

    def test_stems_through_sums(self):
        self.assertEqual(self.upper(self.got(3, 9) + "; num 4; add; num 1; sub")[2], (1, 3))
        self.assertEqual(self.upper(self.got(3, 9) + "; num 4; sub")[2], (1, -4))
        self.assertIsNone(self.upper("num 4; " + self.got(3, 9) + "; add")[2])
        self.assertIsNone(self.upper(self.got(3, 9) + "; " + self.between(1, 2) + "; add")[2])
        self.assertEqual(self.upper(self.got(3, 9) + "; " + self.between(2, 2) + "; add")[2], (1, 2))
        for row in ("neg", "num 1; mul", "abs", "num 0; eq"):
            self.assertIsNone(self.upper(self.got(3, 9) + "; " + row)[2], row)

    def test_stems_through_looks(self):
        state = self.state((self.got(3, 9) + "; num 1; add; look 6 8").split("; "), "<text> n")
        self.assertEqual(state, (((1, True, 5, 7),), ((6, 8, (1, 1), ()),)))
        state = self.state((self.got(3, 99) + "; chr; ordc").split("; "), "<text> n")
        self.assertEqual(state, (((1, True, 32, 99),), ((32, 99, (1, 0), ()),)))
        state = self.state((self.got(-3, 99) + "; tru; ordt").split("; "), "<text> n")
        self.assertEqual(state, (((1, True, 0, 1),), ((0, 1, (1, 0), ()),)))
        rows = "place 0 2; " + self.got(0, 9) + "; index 1 3; drop; num 1; drop"
        self.assertEqual(self.state(rows.split("; "), "<text> n 3*n")[0], ((1, True, 1, 3),))
        self.assertIsNone(self.state((self.got(3, 9) + "; num 1; add; look 11 12").split("; "), "<text> n"))

    def test_stems_end(self):
        self.assertEqual(self.upper(self.got(3, 9) + "; place 0 1; num 1; store")[2], None)
        self.assertEqual(self.upper(self.got(3, 9) + "; place 0 1; unset")[2], None)
        self.assertEqual(self.upper(self.got(3, 9) + "; place 0 2; num 1; store")[2], (1, 0))
        tests = self.got(3, 9) + "; num 5; lt"
        self.assertEqual(self.upper(tests)[3], ((1, 0, "lt", 5, 5),))
        self.assertEqual(self.upper(tests + "; place 0 1; num 1; store")[3], ())
        self.assertEqual(self.upper(tests + "; place 0 2; unset")[3], ((1, 0, "lt", 5, 5),))

    def test_dup(self):
        self.assertEqual(self.state((self.got(3, 9) + "; num 5; le; dup").split("; "), "<text> n")[1],
            ((0, 1, None, ((1, 0, "le", 5, 5),)),) * 2)

    def test_tests_of_comparisons(self):
        rows = "place 0 2; num 7; store; " + self.got(3, 9)
        self.assertEqual(self.upper(rows + "; place 0 2; load; lt")[3], ((1, 0, "lt", 7, 7), (2, 0, "gt", 3, 9)))
        self.assertEqual(self.upper(rows + "; num 1; add; place 0 2; load; ge")[3], ((1, 1, "ge", 7, 7), (2, 0, "le", 4, 10)))
        self.assertEqual(self.upper("num 7; " + self.got(3, 9) + "; ne")[3], ((1, 0, "ne", 7, 7),))
        self.assertEqual(self.upper(self.got(3, 9) + "; place 0 1; load; lt")[3], ((1, 0, "gt", 3, 9), (1, 0, "lt", 3, 9)))
        # Both are one but for their stretches: what lies in both.
        both = self.got(3, 9) + "; dup; look 5 20; drop; place 0 1; load; eq"
        self.assertEqual(self.upper(both)[3], ((1, 0, "eq", 5, 9),))
        self.assertEqual(self.upper(self.got(3, 9) + "; num 5; gt; not")[3], ((1, 0, "le", 5, 5),))
        self.assertEqual(self.upper(self.got(3, 9) + "; place 0 1; load; le; not")[3], ((1, 0, "gt", 3, 9), (1, 0, "lt", 3, 9)))
        self.assertEqual(self.upper(self.got(3, 9) + "; num 5; gt; truth 1; and")[3], ())


class TestsLearnedTest(Claiming, unittest.TestCase):
    def learned(self, rows, low=0, high=20, is_true=True):
        """The stretch of name 1, at first from low to high, behind a test of it; None without a state."""
        ahead = f"place 0 1; {self.between(low, high)}; store; {rows}; unless 1".split("; ")
        unit = unit_of_rows([*ahead, "trap case", "label 1", "trap end"], "<text> n n")
        state = claims(unit, "p0", len(ahead) + (0 if is_true else 1))
        return None if state is None else state[0][0][2:]

    def test_each_comparison(self):
        told = {
            "lt": ((0, 6), (7, 20)), "le": ((0, 7), (8, 20)), "gt": ((8, 20), (0, 7)), "ge": ((7, 20), (0, 6)), "eq": ((7, 7), (0, 20)),
            "ne": ((0, 20), (7, 7))}
        for word, (yes, no) in told.items():
            rows = f"place 0 1; load; num 7; {word}"
            self.assertEqual([self.learned(rows), self.learned(rows, is_true=False)], [yes, no], word)
        for word, turned in (("lt", "gt"), ("le", "ge"), ("gt", "lt"), ("ge", "le"), ("eq", "eq"), ("ne", "ne")):
            rows = f"num 7; place 0 1; load; {word}"
            self.assertEqual([self.learned(rows), self.learned(rows, is_true=False)], list(told[turned]), word)

    def test_more(self):
        self.assertEqual(self.learned("num 6; drop; place 0 1; load; num 3; add; num 10; lt"), (0, 6))
        self.assertEqual(self.learned("num 6; drop; place 0 1; load; num 3; sub; num 3; gt"), (7, 20))

    def test_unlike_numbers(self):
        for low, high, yes in ((7, 20, (8, 20)), (0, 7, (0, 6)), (0, 20, (0, 20))):
            self.assertEqual(self.learned("place 0 1; load; num 7; ne", low, high), yes)
            self.assertEqual(self.learned("place 0 1; load; num 7; eq", low, high, is_true=False), yes)
        # One number is left, and none.
        self.assertEqual(self.learned("place 0 1; load; num 7; ne", 7, 8), (8, 8))
        self.assertIsNone(self.learned("place 0 1; load; num 7; ne", 7, 7))
        # Of a stretch nothing is learned.
        self.assertEqual(self.learned(f"place 0 1; load; {self.between(7, 8)}; ne", 7, 20), (7, 20))

    def test_stretches(self):
        other = self.between(5, 9)
        told = {"lt": (0, 8), "le": (0, 9), "gt": (6, 20), "ge": (5, 20), "eq": (5, 9), "ne": (0, 20)}
        for word, yes in told.items():
            self.assertEqual(self.learned(f"place 0 1; load; {other}; {word}"), yes, word)

    def test_surely_one_way(self):
        self.assertIsNone(self.learned("place 0 1; load; num 30; gt"))
        self.assertIsNone(self.learned("place 0 1; load; num 30; lt", is_true=False))
        self.assertEqual(self.learned("place 0 1; load; num 30; gt", is_true=False), (0, 20))

    def test_widening(self):
        # It is at most 7, which is no end of the unit: num 5, num 13 tell 4 to 6 and 12 to 14.
        rows = "place 0 1; load; num 5; add; num 13; lt"
        self.assertEqual(self.learned(rows), (0, 12))
        self.assertEqual(self.learned("num 7; drop; " + rows), (0, 7))
        # Behind ne the end goes one up, and is widened again.
        self.assertEqual(self.learned("place 0 1; load; num 1; add; num 7; ne", 6, 20), (7, 20))
        self.assertEqual(self.learned("place 0 1; load; num 2; sub; num 7; ne", 9, 20), (10, 20))

    def test_names_that_are_learned_of_are_set(self):
        rows = "place 0 0; eof; unless 1; place 0 1; num 4; store; label 1; place 0 1; load; num 4; eq; unless 2; trap case; label 2; trap end"
        unit = unit_of_rows(rows.split("; "), "<text> n")
        self.assertEqual(claims(unit, "p0", 12), (((1, True, 4, 4),), ()))
        self.assertIsNone(claims(unit, "p0", 13))


class JoiningTest(Claiming, unittest.TestCase):
    def at(self, rows, row, names="<text> n n t", more=(), name="p0", signatures=("signature g0 takes n gives n",)):
        unit = unit_of_rows(rows.split("; "), names, more=more, signatures=signatures)
        self.assertEqual(checked(unit)[0], "let", checked(unit))
        return claims(unit, name, row)

    def test_what_comes_together(self):
        rows = "place 0 0; eof; unless 1; place 0 1; num 4; store; num 3; jump 2; label 1; place 0 1; num 9; store; num 5; label 2; drop; leave"
        self.assertEqual(self.at(rows, 13), (((1, True, 4, 9), (2, False, None, None), (3, False, None, None)), ((3, 5, None, ()),)))
        rows = "place 0 0; eof; unless 1; place 0 1; num 4; store; label 1; leave"
        self.assertEqual(self.at(rows, 6)[0][0], (1, False, 4, 4))

    def test_stems_and_tests_in_all(self):
        begin = "place 0 1; num 4; store; place 0 2; num 4; store; place 0 0; eof; unless 1; "
        both = begin + "place 0 1; load; num 1; add; jump 2; label 1; place 0 1; load; num {}; add; label 2; drop; leave"
        self.assertEqual(self.at(both.format(1), 19)[1], ((5, 5, (1, 1), ()),))
        self.assertEqual(self.at(both.format(2), 19)[1], ((5, 31, None, ()),))
        tests = begin + "place 0 1; load; num 3; lt; jump 2; label 1; place 0 {}; load; num 7; {}; label 2; drop; leave"
        self.assertEqual(self.at(tests.format(1, "lt"), 19)[1], ((0, 1, None, ((1, 0, "lt", 3, 7),)),))
        self.assertEqual(self.at(tests.format(1, "le"), 19)[1][0][3], ())
        self.assertEqual(self.at(tests.format(2, "lt"), 19)[1][0][3], ())

    def test_loops(self):
        rows = "place 0 1; num 0; store; label 1; place 0 1; load; num 50; lt; unless 2; place 0 1; place 0 1; load; num 1; add; store; jump 1; label 2; leave"
        self.assertEqual(self.at(rows, 2)[1], (None, (0, 0, None, ())))
        self.assertEqual([self.at(rows, row)[0][0] for row in (3, 4)], [(1, True, 0, 50)] * 2)
        self.assertEqual(self.at(rows, 9)[0][0], (1, True, 0, 49))
        self.assertEqual(self.at(rows, 17)[0][0], (1, True, 50, 50))
        rows = rows.replace("lt; unless 2; place", "ne; unless 2; place")
        self.assertEqual(self.at(rows, 17)[0][0], (1, True, 50, 50))

    def test_tables(self):
        rows = "place 0 1; " + self.between(0, 9) + "; store; place 0 1; load; table 3 1 2 1 - 2; label 1; trap case; label 2; trap end"
        self.assertEqual([self.at(rows, 9)[0][0], self.at(rows, 11)[0][0]], [(1, True, 3, 6), (1, True, 4, 7)])
        stem = rows.replace("load; table", "load; num 1; add; table")
        self.assertEqual([self.at(stem, 11)[0][0], self.at(stem, 13)[0][0]], [(1, True, 2, 4), (1, True, 3, 6)])
        other = rows.replace("0 9", "6 9")
        self.assertEqual([self.at(other, 8), self.at(other, 11)[0][0]], [None, (1, True, 7, 7)])
        self.assertIsNone(self.at(rows.replace("0 9", "8 9"), 10))

    def test_calls(self):
        more = proc("p1", "p0", "n c &n", "n", "n n", "place 0 3; place 0 0; load; num 1; add; store; leave".split("; "))
        rows = "place 0 1; num 4; store; num 9; sign 65; place 0 2; call p1; trap case"
        state = self.at(rows, 7, more=more)
        self.assertEqual(state[1], ((10, 10, None, ()),))
        self.assertEqual(state[0][0], (1, True, 4, 4))
        entered = self.at(rows, 0, more=more, name="p1")
        self.assertEqual(entered, (((0, True, 9, 9), (1, True, 65, 65), (3, False, None, None), (4, False, None, None)), ()))
        twice = rows.replace("trap case", "drop; num 30; sign 70; place 0 2; call p1; trap case")
        self.assertEqual(self.at(twice, 0, more=more, name="p1")[0][:2], ((0, True, 9, 30), (1, True, 65, 70)))
        self.assertEqual(self.at(twice, 7, more=more)[1], ((10, 31, None, ()),))

    def test_calls_that_never_come_back(self):
        for body in ("label 1; jump 1", "trap case", "place 0 0; load; drop; leave", "leave", "call p1; drop; leave"):
            more = proc("p1", "p0", "", "n", "n", body.split("; "))
            self.assertIsNone(self.at("call p1; trap case", 1, more=more), body)
        # A result that no leave can have, but one that one leave has.
        more = proc("p1", "p0", "", "n", "n", "truth 0; unless 1; leave; label 1; place 0 0; num 7; store; leave".split("; "))
        self.assertEqual(self.at("call p1; trap case", 1, more=more)[1], ((7, 7, None, ()),))
        # What is not private may be anything; a set is no cell.
        more = proc("p1", "p0", "", "n", "n", ["place 0 0", "call p2", "leave"]) + proc("p2", "p0", "&n", "-", "",
            ["place 0 0", "num 3", "store", "leave"])
        self.assertEqual(self.at("call p1; trap case", 1, more=more)[1], ((*FULL, None, ()),))
        more = proc("p1", "p0", "", "s", "s", ["leave"])
        self.assertEqual(self.at("call p1; trap case", 1, more=more)[1], (None,))

    def test_results_of_several_leaves(self):
        body = "place 0 1; place 0 0; load; store; place 0 0; load; num 5; lt; unless 1; leave; label 1; place 0 1; num 40; store; leave"
        more = proc("p1", "p0", "n", "n", "n", body.split("; "))
        self.assertEqual(self.at(self.between(2, 9) + "; call p1; trap case", 4, more=more)[1], ((2, 40, None, ()),))

    def test_recursion(self):
        body = ("place 0 0; load; num 0; eq; unless 1; place 0 1; num 3; store; leave; label 1; "
                "place 0 1; place 0 0; load; num 1; sub; call p1; store; leave")
        more = proc("p1", "p0", "n", "n", "n", body.split("; "))
        rows = self.between(0, 9) + "; call p1; trap case"
        self.assertEqual(self.at(rows, 4, more=more)[1], ((3, 3, None, ()),))
        self.assertEqual(self.at(rows, 0, more=more, name="p1")[0], ((0, True, 0, 9), (1, False, None, None)))
        # With lt in the place of eq nothing stops it from above, but that it is at least 0 ahead of the call.
        rows = self.between(-5, 9) + "; call p1; trap case"
        more = proc("p1", "p0", "n", "n", "n", body.replace("eq; unless", "le; unless").split("; "))
        self.assertEqual(self.at(rows, 0, more=more, name="p1")[0][0], (0, True, -5, 9))

    def test_hands(self):
        more = proc("p1", "p0", "n", "n", "n", "place 0 1; place 0 0; load; store; leave".split("; "))
        rows = "hand p1 g0; num 4; callh g0; trap case"
        self.assertEqual(self.at(rows, 3, more=more)[1], ((*FULL, None, ()),))
        self.assertEqual(self.at(rows, 0, more=more, name="p1")[0], ((0, True, *FULL), (1, False, None, None)))
        self.assertEqual(self.at(rows, 1, more=more)[1], (None,))
        # What is never handed nor called has no state.
        self.assertIsNone(self.at("num 4; drop; trap case", 0, more=more, name="p1"))

    def test_far(self):
        more = proc("p1", "p0", "", "-", "", ["far 1 3"])
        rows = "place 0 1; num 4; store; call p1; leave; label 3; place 0 3; truth 1; store; leave"
        self.assertEqual(self.at(rows, 5, more=more), (((1, False, *FULL), (2, False, *FULL), (3, False, 0, 1)), ()))
        self.assertIsNone(self.at(rows, 4, more=more))
        # A far that is never done leaves its label without a state.
        self.assertIsNone(self.at(rows.replace("call p1; ", ""), 4, more=more))

    def test_jumps_leaves_and_traps(self):
        rows = "jump 1; num 3; drop; label 1; leave; num 5; drop"
        unit = unit_of_rows(rows.split("; "))
        self.assertEqual([claims(unit, "p0", row) for row in (0, 1, 3, 4, 5)], [((), ()), None, ((), ()), ((), ()), None])


class AllClaimsTest(Claiming, unittest.TestCase):
    def programs(self, seeds):
        for seed in seeds:
            try:
                yield seed, compiled(Program(random_program(seed)))
            except StageError:
                pass

    def test_the_example(self):
        rows = ["place 0 0", "num 3", "store", "label 1", "place 0 0", "load", "num 0", "gt", "unless 2", "place 0 0", "place 0 0", "load",
            "num 1",
                "sub", "store", "jump 1", "label 2", "leave", "end"]
        down = Unit("\n".join(["proc p0 -", "takes", "gives -", "names n", "files", "work 3"] + rows))
        told = [claims(down, "p0", 9), claims(down, "p0", 17), claims(down, "p0", 8)[1]]
        self.assertEqual(told, [(((0, True, 1, 3),), ()), (((0, True, 0, 0),), ()), ((0, 1, None, ((0, 0, "gt", 0, 0),)),)])

    def test_all_claims(self):
        more = proc("p1", "p0", "", "-", "", ["leave", "num 1", "drop", "leave"]) + proc("p2", "p0", "", "-", "", ["leave"])
        unit = unit_of_rows(["line 1", "call p1", "jump 1", "call p2", "label 1", "leave"], "n", more=more)
        names = ((0, False, None, None),)
        self.assertEqual(all_claims(unit), (
            ("p0", 0, names, ()), ("p0", 1, names, ()), ("p0", 2, names, ()), ("p0", 4, names, ()), ("p0", 5, names, ()),
            ("p1", 0, (), ())))
        self.assertEqual(claims(unit=unit, proc="p1", row=0), ((), ()))

    def test_errors(self):
        unit = unit_of_rows(["leave"])
        self.refused(NoProc, "p1", claims, unit, "p1", 99)
        for value in (1, -1, True, "0", None, 0.0):
            self.refused(NoRow, value, claims, unit, "p0", value)
        wrong = Unit("proc p0 -\ntakes\ngives -\nnames\nfiles\nwork 0\ndrop\nleave\nend")
        needing = Unit("needs q p0 takes gives -\nproc p0 -\ntakes\ngives -\nnames\nfiles\nwork 0\ndrop\nleave\nend")
        for call in (lambda unit: claims(unit, "p9", 9), all_claims, lambda unit: closed(unit, 3), lambda unit: sure_rows(unit, "p9")):
            self.refused(NotLet, checked(wrong), call, wrong)
            self.refused(NotWhole, ("q",), call, needing)

    def test_in_whatever_sequence(self):
        rolls = random.Random(4)
        for _, unit in self.programs(range(14)):
            reckoning = Reckoning(unit)
            states = settled(reckoning)
            for _ in range(2):
                place, state = reckoning.beginning()
                found = {place: state}
                waiting = [place]
                while waiting:
                    place = waiting.pop(rolls.randrange(len(waiting)))
                    for other, told in reckoning.made_behind(place, found):
                        joined = joined_states(found.get(other), told)
                        if found.get(other) != joined:
                            found[other] = joined
                            waiting += [other] + [caller for caller in reckoning.calling[other[0]] if caller in found]
                self.assertEqual(found, states)

    def test_claims_of_programs_are_closed(self):
        for _, unit in self.programs(range(20)):
            value = all_claims(unit)
            self.assertIs(closed(unit, value), True)
            self.assertEqual([claims(unit, *row[:2]) for row in value[:20]], [row[2:] for row in value[:20]])


if __name__ == "__main__":
    unittest.main()
