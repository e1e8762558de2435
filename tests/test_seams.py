"""Point 20: Seam, its rows and terms; joined_seam."""

import unittest

from begunended.errors import BadSeam, BadValue
from begunended.seams import Seam, joined_seam
from tests.common import Refusing

ORDERS_OF_ONE = "neg abs sqr odd ordt ordc chr tru not one window"
ORDERS_OF_TWO = "add sub mul div mod and or eq ne lt le gt ge same unlike seq sne inside around span join meet less in"


def seam_text(*rows):
    return "\n".join(["proc p0", "match 0 0", *rows])


class SeamTest(Refusing, unittest.TestCase):
    def term(self, text):
        """Whether this may stand as a term."""
        for row in ("work {}", "name 4 {}"):
            whole = seam_text("match 3 4", row.format(text))
            try:
                self.assertEqual(Seam(whole).text, whole)
            except BadSeam as caught:
                self.assertEqual(caught.value, 4)
                return False
        return True

    def test_terms(self):
        right = [
            "n0", "w0", "n2147483647", "num(5)", "num(-2147483647)", "truth(0)", "truth(1)", "sign(32)", "sign(126)", "set()", "set(0)",
            "set(0,5,127)",
            "nil(l0)", "nil(a2345678)", "place(0,2)", "place(3,0)", "handed(1,2)", "hand(p1,g0)", "field(place(0,2),1)",
            "arm(field(n3,2),0)",
            "index(place(0,1),n2,-3,9)", "index(w0,num(0),5,5)", "window(place(0,0))"]
        right += [f"{word}(n1)" for word in ORDERS_OF_ONE.split()] + [f"{word}(w1,num(3))" for word in ORDERS_OF_TWO.split()]
        for text in right:
            self.assertTrue(self.term(text), text)

    def test_what_is_no_term(self):
        wrong = [
            "", "n", "w", "x0", "n-1", "n01", "n2147483648", "n1.0", "N1", "num", "num()", "num(x)", "num(2147483648)", "num(1,2)",
            "num(01)", "num(n1)",
            "truth(2)", "truth(-1)", "sign(31)", "sign(127)", "set(5,3)", "set(3,3)", "set(128)", "set(-1)", "set(,)", "set(1,)", "nil()",
            "nil(L0)",
            "nil(a23456789)", "nil(l0,l1)", "place(0)", "place(0,-1)", "place(-1,0)", "place(0,1,2)", "handed(0)", "hand(p1)",
            "hand(p1,g0,g1)", "hand(1,g0)",
            "field(n0)", "field(n0,-1)", "field(1,n0)", "field(n0,n1)", "arm(n0)", "index(n0,n1)", "index(n0,n1,5,3)", "index(n0,n1,5)",
            "index(n0,5,3,5)",
            "window(n0,1)", "window()", "add(n0)", "add(n0,n1,n2)", "add(n0,n1", "add(n0,n1))", "add n0,n1", "add(n0 ,n1)", "not(n0,n1)",
            "not()", "(n0)",
            "look(n0,1,2)", "within(n0,1,2)", "load(n0)", "aim(n0)", "dup(n0)", "string(65)", "text(n0,n1,eq)", "eof(n0)", "call(p1)",
            "drop(n0)", "readn(n0)",
            "add(n0,)", "add(,n0)", "n0n1", "n0,", "n0)", "lives(n0,1)", "become(n0,0)", "line(1)", "work(n0)", "move(n0,n1)", "NUM(1)"]
        for text in wrong:
            self.assertFalse(self.term(text), text)

    def test_six_deep(self):
        deep = "n0"
        for many in range(1, 9):
            self.assertEqual(self.term(deep), many <= 6, deep)
            deep = f"not({deep})"
        self.assertTrue(self.term("add(num(1),mul(n1,neg(abs(sqr(num(3))))))"))
        self.assertFalse(self.term("add(num(1),mul(n1,neg(abs(sqr(neg(num(3)))))))"))
        self.assertFalse(self.term("field(" * 3000 + "n0"))

    def test_rows(self):
        text = "proc p0\nmatch 0 0\nlost 2\nlost 5\nmatch 0 3\nmatch 4 1\nwork w1\nwork num(3)\nname 1 n2\nlost 3\nname 7 w0\nproc a\nmatch 0 0"
        seam = Seam(text)
        self.assertEqual((seam.text, seam.matches), (text, (("p0", 0, 0), ("p0", 0, 3), ("p0", 4, 1), ("a", 0, 0))))
        self.assertEqual(seam, Seam(text=text))
        self.assertNotEqual(seam, Seam("proc p0\nmatch 0 0"))
        self.assertNotEqual(seam, text)
        self.assertNotEqual(seam, None)

    def test_no_strings(self):
        for value in (None, 3, True, ("proc p0", "match 0 0"), ["proc p0"], b"proc p0", {}):
            self.refused(BadSeam, 0, Seam, value)

    def test_rows_that_cannot_stand(self):
        told = {
            "": 1, "proc": 1, "match 0 0": 1, "proc P0\nmatch 0 0": 1, "proc p0 p1\nmatch 0 0": 1, "proc  p0\nmatch 0 0": 1,
            "proc a23456789\nmatch 0 0": 1,
            "proc p0\nmatch 0 1": 2, "proc p0\nmatch 1 0": 2, "proc p0\nproc p1": 2, "proc p0\nmatch 0": 2, "proc p0\nmatch 0 0 0": 2,
            "proc p0\nmatch 0 00": 2,
            "proc p0\nmatch 0 0\n": 3, "proc p0\nmatch 0 0\nmatch 0 0": 3, "proc p0\nmatch 0 0\nmatch 3 2\nmatch 3 2": 4,
            "proc p0\nmatch 0 0\nmatch 3 2\nmatch 3 1": 4,
            "proc p0\nmatch 0 0\nmatch 3 2\nmatch 2 3": 4, "proc p0\nmatch 0 0\nmatch -1 2": 3, "proc p0\nmatch 0 0\nmatch 1 x": 3,
            "proc p0\nmatch 0 0\nwork w0": 3,
            "proc p0\nmatch 0 0\nname 1 n1": 3, "proc p0\nmatch 0 0\nlost 1\nlost 1": 4, "proc p0\nmatch 0 0\nlost 2\nlost 1": 4,
            "proc p0\nmatch 0 0\nlost": 3,
            "proc p0\nmatch 0 0\nlost 1 n1": 3, "proc p0\nmatch 0 0\nlost -1": 3, "proc p0\nmatch 0 0\nmatch 1 1\nlost 1\nname 1 n1": 5,
            "proc p0\nmatch 0 0\nmatch 1 1\nname 2 n1\nname 1 n1": 5, "proc p0\nmatch 0 0\nmatch 1 1\nname 1 n1\nwork w0": 5,
            "proc p0\nmatch 0 0\nmatch 1 1\nname 1": 4,
            "proc p0\nmatch 0 0\nmatch 1 1\nname 1 n1 n2": 4, "proc p0\nmatch 0 0\nmatch 1 1\nwork": 4,
            "proc p0\nmatch 0 0\nmatch 1 1\nwork w0 w1": 4,
            "proc p0\nmatch 0 0\nproc p0\nmatch 0 0": 3, "proc p0\nmatch 0 0\nend": 3, "proc p0\nmatch 0 0 ": 2, " proc p0\nmatch 0 0": 1,
            "proc p0\nmatch 0 0\nmatch 2147483648 1": 3,
        }
        for text, number in told.items():
            self.refused(BadSeam, number, Seam, text)

    def test_missing_rows(self):
        self.refused(BadSeam, 2, Seam, "proc p0")
        self.refused(BadSeam, 4, Seam, "proc p0\nmatch 0 0\nproc p1")


class JoinedSeamTest(Refusing, unittest.TestCase):
    def joined(self, one, other):
        return joined_seam(Seam("proc p0\n" + one), Seam("proc p0\n" + other)).text.replace("proc p0\n", "", 1)

    def test_matches(self):
        self.assertEqual(self.joined("match 0 0", "match 0 0"), "match 0 0")
        self.assertEqual(self.joined("match 0 0\nmatch 2 3\nmatch 4 5", "match 0 0\nmatch 3 7\nmatch 6 9"), "match 0 0\nmatch 2 7")
        self.assertEqual(self.joined("match 0 0\nmatch 2 3\nmatch 4 3", "match 0 0\nmatch 3 7\nmatch 3 8"),
                         "match 0 0\nmatch 2 7\nmatch 2 8\nmatch 4 7\nmatch 4 8")
        # The least row between.
        self.assertEqual(self.joined("match 0 0\nmatch 2 3\nname 1 n2\nmatch 2 5", "match 0 0\nmatch 3 7\nmatch 5 7\nlost 1"),
                         "match 0 0\nmatch 2 7\nname 1 n2")

    def test_names(self):
        one = "match 0 0\nlost 8\nmatch 1 1\nname 1 n2\nlost 3\nname 4 num(7)\nname 6 add(n6,num(1))"
        other = "match 0 0\nlost 9\nmatch 1 1\nname 0 n1\nname 2 n3\nlost 4\nname 5 mul(n6,n5)\nname 7 n4\nname 8 add(n3,n1)"
        self.assertEqual(self.joined(one, other), (
            "match 0 0\nlost 8\nlost 9\nmatch 1 1\nname 0 n2\nname 1 n2\nlost 2\nlost 3\nlost 4\nname 5 mul(add(n6,num(1)),n5)"
            "\nname 6 add(n6,num(1))\nname 7 num(7)\nlost 8"))

    def test_names_that_hold_themselves(self):
        self.assertEqual(self.joined("match 0 0\nmatch 1 1\nname 1 n2\nname 2 n1", "match 0 0\nmatch 1 1\nname 1 n2\nname 2 n1"),
            "match 0 0\nmatch 1 1")
        self.assertEqual(self.joined("match 0 0\nmatch 1 1\nlost 1\nname 2 n1", "match 0 0\nmatch 1 1\nname 1 n2"),
            "match 0 0\nmatch 1 1\nname 2 n1")
        self.assertEqual(self.joined("match 0 0\nlost 1", "match 0 0\nlost 1\nlost 2"), "match 0 0\nlost 1\nlost 2")

    def test_works(self):
        one = "match 0 0\nmatch 1 1\nwork add(w0,n1)\nwork num(5)\nname 2 w1"
        other = "match 0 0\nmatch 1 1\nwork w1\nwork mul(w0,n2)\nwork place(0,3)\nname 1 w0\nlost 4"
        self.assertEqual(self.joined(one, other), (
            "match 0 0\nmatch 1 1\nwork num(5)\nwork mul(add(w0,n1),w1)\nwork place(0,3)\nname 1 add(w0,n1)\nname 2 w1\nlost 4"))
        # A thing that is not told, and a lost name, in a work: the match is left out; in a name: it is lost.
        self.assertEqual(self.joined(one, "match 0 0\nmatch 1 1\nwork w2"), "match 0 0")
        self.assertEqual(self.joined("match 0 0\nmatch 1 1\nlost 1", "match 0 0\nmatch 1 1\nwork neg(n1)"), "match 0 0")
        self.assertEqual(self.joined(one, "match 0 0\nmatch 1 1\nname 5 neg(w2)"), "match 0 0\nmatch 1 1\nname 2 w1\nlost 5")

    def test_six_deep(self):
        one = "match 0 0\nmatch 1 1\nname 1 neg(neg(neg(n1)))"
        fine = self.joined(one, "match 0 0\nmatch 1 1\nname 2 neg(neg(n1))")
        self.assertEqual(fine, "match 0 0\nmatch 1 1\nname 1 neg(neg(neg(n1)))\nname 2 neg(neg(neg(neg(neg(n1)))))")
        seams = [Seam("proc p0\n" + text) for text in (one, "match 0 0\nmatch 1 1\nname 2 neg(neg(neg(n1)))")]
        self.refused(BadSeam, 0, joined_seam, *seams)

    def test_several_procs(self):
        one = Seam("proc p0\nmatch 0 0\nproc a\nmatch 0 0\nmatch 2 3")
        other = Seam("proc p0\nmatch 0 0\nproc a\nmatch 0 0\nmatch 3 1")
        self.assertEqual(joined_seam(one=one, other=other).text, "proc p0\nmatch 0 0\nproc a\nmatch 0 0\nmatch 2 1")

    def test_errors(self):
        one = Seam("proc p0\nmatch 0 0")
        for value in (None, one.text, 3, (), [one]):
            self.refused(BadValue, value, joined_seam, value, value)
            self.refused(BadValue, value, joined_seam, one, value)
        for text in ("proc p1\nmatch 0 0", "proc p0\nmatch 0 0\nproc p1\nmatch 0 0"):
            other = Seam(text)
            with self.assertRaises(BadValue) as caught:
                joined_seam(one, other)
            self.assertIs(caught.exception.value, other)
        twins = [Seam(f"proc {name}\nmatch 0 0\nproc {twin}\nmatch 0 0") for name, twin in (("a", "b"), ("b", "a"))]
        with self.assertRaises(BadValue):
            joined_seam(*twins)


if __name__ == "__main__":
    unittest.main()
