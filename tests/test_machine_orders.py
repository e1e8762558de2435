"""Point 17: each order of point 12 on a machine, step by step, and each of its traps at its edge and beside it."""

import unittest

from begunended.machine import Machine
from tests.machines import Machines, proc, unit_of_rows

MAXINT = 2147483647


def numbers(*values):
    return tuple(("n", value) for value in values)


class ValueOrdersTest(Machines, unittest.TestCase):
    def test_told_values(self):
        self.leaves(numbers(5, -MAXINT), "num 5", f"num -{MAXINT}")
        self.leaves((("t", True), ("t", False)), "truth 1", "truth 0")
        self.leaves((("c", " "), ("c", "~"), ("c", "A")), "sign 32", "sign 126", "sign 65")
        self.leaves((("s", ()), ("s", (0, 3, 127))), "set", "set 0 3 127")
        self.leaves((("^l0", 0),), "nil l0")
        self.leaves((("a[2*c]", ("string",)),), "string 97 98")

    def test_sums(self):
        self.leaves(numbers(7), "num 5; num 2; add")
        self.leaves(numbers(-3), "num 2; num 5; sub")
        self.leaves(numbers(-10), "num -5; num 2; mul")
        self.leaves(numbers(MAXINT), f"num {MAXINT - 1}; num 1; add")
        self.leaves(numbers(-MAXINT), f"num {1 - MAXINT}; num 1; sub")
        self.traps("beyond", f"num {MAXINT}; num 1; add")
        self.traps("beyond", f"num -{MAXINT}; num 1; sub")
        self.traps("beyond", f"num -{MAXINT}; num -1; add")
        self.traps("beyond", "num 65536; num 32768; mul")
        self.leaves(numbers(2147450880), "num 65535; num 32768; mul")
        self.leaves(numbers(-2147450880), "num 65535; num -32768; mul")
        self.traps("beyond", "num -65536; num 32768; mul")

    def test_quotients(self):
        for one, other, quotient in ((7, 2, 3), (-7, 2, -3), (7, -2, -3), (-7, -2, 3), (0, -5, 0), (1, 2, 0)):
            self.leaves(numbers(quotient), f"num {one}; num {other}; div")
        for one, other, rest in ((7, 2, 1), (-7, 2, 1), (-6, 3, 0), (-1, 5, 4), (4, 1, 0)):
            self.leaves(numbers(rest), f"num {one}; num {other}; mod")
        self.traps("nought", "num 7; num 0; div")
        self.traps("below", "num 7; num 0; mod")
        self.traps("below", "num 7; num -1; mod")

    def test_single_numbers(self):
        self.leaves(numbers(-5), "num 5; neg")
        self.leaves(numbers(MAXINT), f"num -{MAXINT}; neg")
        self.leaves(numbers(MAXINT), f"num -{MAXINT}; abs")
        self.leaves(numbers(46340 * 46340), "num -46340; sqr")
        self.traps("beyond", "num 46341; sqr")
        self.leaves((("t", True), ("t", False), ("t", True)), "num -3; odd; num 0; odd; num 7; odd")

    def test_ordinals(self):
        self.leaves(numbers(1, 0, 65), "truth 1; ordt; truth 0; ordt; sign 65; ordc")
        self.leaves((("c", " "), ("c", "~")), "num 32; chr; num 126; chr")
        self.traps("stretch", "num 31; chr")
        self.traps("stretch", "num 127; chr")
        self.leaves((("t", False), ("t", True)), "num 0; tru; num 1; tru")
        self.traps("stretch", "num 2; tru")
        self.traps("stretch", "num -1; tru")

    def test_looks(self):
        self.leaves(numbers(3, 9), "num 3; look 3 9; num 9; look 3 9")
        self.traps("stretch", "num 2; look 3 9")
        self.traps("stretch", "num 10; look 3 9")
        self.leaves((("s", (3, 9)), ("s", ())), "set 3 9; within 3 9; set; within 200 300")
        self.traps("stretch", "set 2 3; within 3 9")
        self.traps("stretch", "set 9 10; within 3 9")
        self.leaves((("s", (0, 127)),), "set 0 127; within -5 200")

    def test_truths(self):
        told = {("and", True, True): True, ("and", True, False): False, ("or", False, True): True, ("or", False, False): False}
        for (word, one, other), value in told.items():
            self.leaves((("t", value),), f"truth {int(one)}; truth {int(other)}; {word}")
        self.leaves((("t", False), ("t", True)), "truth 1; not; truth 0; not")

    def test_comparisons(self):
        holds = {"eq": (0, 1, 0), "ne": (1, 0, 1), "lt": (1, 0, 0), "le": (1, 1, 0), "gt": (0, 0, 1), "ge": (0, 1, 1)}
        for word, told in holds.items():
            for pair, value in zip((("2", "3"), ("3", "3"), ("3", "2")), told):
                self.leaves((("t", value == 1),), f"num {pair[0]}; num {pair[1]}; {word}")
                self.leaves((("t", value == 1),), f"sign 6{pair[0]}; sign 6{pair[1]}; {word}")
            for pair, value in zip(((0, 1), (1, 1), (1, 0)), told):
                self.leaves((("t", value == 1),), f"truth {pair[0]}; truth {pair[1]}; {word}")

    def test_sets(self):
        both = (("s", (1, 2, 3)), ("s", (2,)), ("s", (1,)))
        self.leaves(both, "set 1 2; set 2 3; join; set 1 2; set 2 3; meet; set 1 2; set 2 3; less")
        for word, told in {"seq": (0, 1, 0), "sne": (1, 0, 1), "inside": (1, 1, 0), "around": (0, 1, 1)}.items():
            for pair, value in zip((("1", "1 2"), ("1 2", "1 2"), ("1 2", "2")), told):
                self.leaves((("t", value == 1),), f"set {pair[0]}; set {pair[1]}; {word}")
        self.leaves((("t", True), ("t", False), ("t", False), ("t", False)),
                    "num 3; set 3; in; num 4; set 3; in; num -1; set 3; in; num 128; set 3; in")
        self.leaves((("s", (0,)), ("s", (127,))), "num 0; one; num 127; one")
        self.traps("member", "num -1; one")
        self.traps("member", "num 128; one")
        self.leaves((("s", (3, 4, 5)), ("s", ())), "num 3; num 5; span; num 5; num 3; span")
        self.traps("member", "num -1; num 3; span")
        self.traps("member", "num 3; num 128; span")
        self.traps("member", "num 128; num 3; span")
        self.traps("member", "num 3; num -1; span")

    def test_pointers_alike(self):
        rows = "place 0 0; new; place 0 0; load; place 0 0; load"
        self.leaves((("t", True),), rows + "; same", names="^l0")
        self.leaves((("t", False),), rows + "; unlike", names="^l0")
        self.leaves((("t", False), ("t", True)), "place 0 0; new; place 0 0; load; nil l0; same; nil l0; nil l0; same", names="^l0")

    def test_dup_and_drop(self):
        self.leaves(numbers(4, 4), "num 4; dup")
        self.leaves(numbers(4), "num 4; set 1; drop")
        self.leaves((("a[n]", ("name", 1, 0)), ("a[n]", ("name", 1, 0))), "place 0 0; dup", names="n")
        self.leaves((), "place 0 0; drop", names="n")
        machine = self.leaves((("@g0", ("p1", 1)),), "hand p1 g0", more=proc("p1", "p0", "n", "n", "n", ["leave"]))
        self.assertEqual(machine.at, ("p0", 1))


class PlaceOrdersTest(Machines, unittest.TestCase):
    def test_places_begin_somewhere(self):
        self.leaves((("a[3*n]", ("name", 1, 1)),), "place 0 1", names="n 3*n")
        self.leaves((("a[n]", ("name", 1, 1)),), "place 0 1; num 2; index 1 3", names="n 3*n")
        self.leaves((("a[n]", ("name", 1, 0)),), "place 0 0; field 1", names="(c,n)")
        self.leaves((("a[(n,^l0)]", ("piece", 1)),), "place 0 0; new; place 0 0; load; aim", names="^l0")
        self.leaves((("a[n]", ("piece", 2)),), "place 0 0; new; place 0 0; new; place 0 0; load; aim; field 0", names="^l0")
        self.leaves((("a[n]", ("window", 1, 0)),), "place 0 0; window", names="<n>", files="f")
        self.leaves((("a[c]", ("window", 1, 1)),), "place 0 1; window", names="n <text>")
        self.leaves((("a[<text>]", ("name", 1, 1)),), "place 0 1", names="n <text>")
        self.leaves((("a[c]", ("string",)),), "string 65 66; num 2; index 1 2")

    def test_load_and_store(self):
        machine = self.leaves(numbers(7), "place 0 1; num 7; store; place 0 1; load", names="n n")
        self.assertEqual([machine.contents(1, 0), machine.contents(1, 1)], [None, 7])
        self.traps("unset", "place 0 0; load", names="n")
        for layout, row, value in (("t", "truth 0", False), ("c", "sign 66", "B"), ("s", "set 1 9", (1, 9)), ("^l0", "nil l0", 0)):
            self.leaves(((layout, value),), f"place 0 0; {row}; store; place 0 0; load", names=layout)

    def test_index(self):
        rows = "place 0 0; num {}; index -1 1; num 5; store"
        for number in (-1, 0, 1):
            machine = self.leaves((), rows.format(number), names="3*n")
            self.assertEqual(machine.contents(1, 0), tuple(5 if at == number + 1 else None for at in range(3)))
        self.traps("index", "place 0 0; num -2; index -1 1", names="3*n")
        self.traps("index", "place 0 0; num 2; index -1 1", names="3*n")
        machine = self.leaves((), "place 0 0; num 2; index 1 2; field 1; num 3; store", names="2*(n,n)")
        self.assertEqual(machine.contents(1, 0), ((None, None), (None, 3)))

    def test_move(self):
        names = "(n,2*c) (n,2*c)"
        rows = "place 0 0; field 0; num 4; store; place 0 0; field 1; num 2; index 1 2; sign 65; store; place 0 1; place 0 0; move"
        machine = self.leaves((), rows, names=names)
        self.assertEqual([machine.contents(1, 0), machine.contents(1, 1)], [(4, (None, "A"))] * 2)
        machine = self.leaves((), "place 0 0; field 0; num 4; store; place 0 0; place 0 1; move", names=names)
        self.assertEqual(machine.contents(1, 0), (None, (None, None)))
        machine = self.leaves((), "place 0 0; string 65 66; move", names="2*c")
        self.assertEqual(machine.contents(1, 0), ("A", "B"))
        machine = self.leaves((), "place 0 0; dup; move; place 0 0; unset", names="2*c")
        self.assertEqual(machine.contents(1, 0), (None, None))
        # One cell may be moved, too, unset or not.
        self.leaves((), "place 0 0; place 0 1; move", names="n n")

    def test_unset(self):
        names = "(n,{(n)|()})"
        rows = "place 0 0; field 0; num 1; store; place 0 0; field 1; become 0; place 0 0; field 1; arm 0; field 0; num 2; store"
        machine = self.leaves((), rows, names=names)
        self.assertEqual(machine.contents(1, 0), (1, 0, (2,)))
        machine = self.leaves((), rows + "; place 0 0; field 1; unset", names=names)
        self.assertEqual(machine.contents(1, 0), (1, None, ()))
        machine = self.leaves((), rows + "; place 0 0; unset", names=names)
        self.assertEqual(machine.contents(1, 0), (None, None, ()))

    def test_text(self):
        holds = {"eq": (0, 1, 0), "ne": (1, 0, 1), "lt": (1, 0, 0), "le": (1, 1, 0), "gt": (0, 0, 1), "ge": (0, 1, 1)}
        for word, told in holds.items():
            for pair, value in zip((("65 66", "65 67"), ("65 66", "65 66"), ("66 65", "65 67")), told):
                self.leaves((("t", value == 1),), f"string {pair[0]}; string {pair[1]}; text {word}")
        # The first unlike pair tells: what lies behind it may be unset.
        rows = "place 0 0; num 1; index 1 2; sign 65; store; "
        self.leaves((("t", True),), rows + "place 0 0; string 66 66; text lt", names="2*c")
        self.traps("unset", rows + "place 0 0; string 65 66; text lt", names="2*c")
        self.traps("unset", rows + "string 65 66; place 0 0; text lt", names="2*c")

    def test_text_takes_the_lower_sign_first(self):
        # The lower one is read through a window at whose end nothing is, the upper one is unset.
        rows = "place 0 0; reset; place 0 0; window; place 0 1; text eq"
        self.traps("end", rows, names="<2*c> 2*c", files="f", inputs=(("f", ()),))
        rows = "place 0 0; reset; place 0 1; place 0 0; window; text eq"
        self.traps("end", rows, names="<2*c> 2*c", files="f", inputs=(("f", ()),))

    def test_gone_places(self):
        held = "place 0 0; new; place 0 0; load; aim; field 0; place 0 0; load; gone; "
        self.traps("gone", held + "load", names="^l0")
        self.traps("gone", held + "num 4; store", names="^l0")
        self.traps("gone", held + "unset", names="^l0")
        self.traps("gone", held + "place 0 1; move", names="^l0 n")
        self.traps("gone", "place 0 0; new; place 0 1; place 0 0; load; aim; field 0; place 0 0; load; gone; move", names="^l0 n")
        self.traps("gone", held.replace("field 0", "field 1") + "new", names="^l0")

    def test_aim(self):
        self.traps("nil", "nil l0; aim")
        self.traps("gone", "place 0 0; new; place 0 0; load; gone; place 0 0; load; aim", names="^l0")
        self.traps("unset", "place 0 0; load", names="^l0")

    def test_new_and_gone(self):
        machine = self.leaves((("^l0", 2),), "place 0 0; new; place 0 0; new; place 0 0; load", names="^l0")
        self.assertEqual([machine.piece(1), machine.piece(2)], [(None, None)] * 2)
        self.traps("nil", "nil l0; gone")
        self.traps("gone", "place 0 0; new; place 0 0; load; gone; place 0 0; load; gone", names="^l0")
        machine = self.leaves((), "place 0 0; new; place 0 0; load; gone; place 0 0; new", names="^l0")
        self.assertEqual(machine.contents(1, 0), 2)

    def test_room(self):
        # l1 takes all 2000 cells.
        self.leaves((), "place 0 0; new", names="^l1")
        machine = self.traps("full", "place 0 0; new; place 0 1; new", names="^l1 ^l0")
        self.assertEqual(machine.contents(1, 1), None)
        machine = self.leaves((), "place 0 0; new; place 0 0; load; gone; place 0 0; new", names="^l1")
        self.assertEqual(machine.contents(1, 0), 2)
        # Full comes ahead of what the place traps; the trap uses no number.
        rows = "place 0 0; new; place 0 1; new; place 0 1; load; aim; field 1; place 0 1; load; gone; new"
        self.traps("full", "place 0 1; new; place 0 1; load; aim; field 1; place 0 1; load; gone; place 0 0; new; new", names="^l1 ^l0")
        machine = self.traps("gone", rows.replace("place 0 0; new; ", ""), names="^l1 ^l0")
        self.assertEqual(machine.engine.heap.numbered, 1)


class ArmOrdersTest(Machines, unittest.TestCase):
    NAMES = "(n,{(n,{(c)|()})|()|(s)})"

    def test_become(self):
        rows = "place 0 0; field 1; become 0; place 0 0; field 1; arm 0; field 0; num 4; store"
        machine = self.leaves((), rows, names=self.NAMES)
        self.assertEqual(machine.contents(1, 0), (None, 0, (4, None, ())))
        # What lives already stays as it is.
        machine = self.leaves((), rows + "; place 0 0; field 1; become 0", names=self.NAMES)
        self.assertEqual(machine.contents(1, 0), (None, 0, (4, None, ())))
        machine = self.leaves((), rows + "; place 0 0; field 1; become 2", names=self.NAMES)
        self.assertEqual(machine.contents(1, 0), (None, 2, (None,)))
        machine = self.leaves((), rows + "; place 0 0; field 1; become 1", names=self.NAMES)
        self.assertEqual(machine.contents(1, 0), (None, 1, ()))

    def test_arms_within_arms(self):
        inner = "place 0 0; field 1; become 0; place 0 0; field 1; arm 0; field 1; become 0"
        machine = self.leaves((), inner, names=self.NAMES)
        self.assertEqual(machine.contents(1, 0), (None, 0, (None, 0, (None,))))
        machine = self.leaves((), inner + "; place 0 0; field 1; become 2; place 0 0; field 1; become 0", names=self.NAMES)
        self.assertEqual(machine.contents(1, 0), (None, 0, (None, None, ())))

    def test_arm_traps(self):
        self.traps("arm", "place 0 0; field 1; arm 0", names=self.NAMES)
        self.traps("arm", "place 0 0; field 1; become 2; place 0 0; field 1; arm 0", names=self.NAMES)
        self.leaves((("a[(s)]", ("name", 1, 0)),), "place 0 0; field 1; become 2; place 0 0; field 1; arm 2", names=self.NAMES)

    def test_arms_that_live_no_more(self):
        held = "place 0 0; field 1; become 0; place 0 0; field 1; arm 0; field 0; dup; num 1; store; place 0 0; field 1; become 1; "
        self.traps("arm", held + "load", names=self.NAMES)
        self.traps("arm", held + "num 1; store", names=self.NAMES)
        self.traps("arm", held + "unset", names=self.NAMES)
        self.traps("arm", held + "place 0 1; move", names=self.NAMES + " n")
        # The upper one comes first: it is unset no trap, but an arm of its own.
        other = "place 0 0; field 1; become 0; place 0 0; field 1; arm 0; field 0; "
        both = "place 0 1; new; place 0 1; load; aim; field 0; " + other + "place 0 0; field 1; become 1; place 0 1; load; gone; move"
        self.traps("arm", both, names=self.NAMES + " ^l0")
        both = other + "place 0 1; new; place 0 1; load; aim; field 0; place 0 0; field 1; become 1; place 0 1; load; gone; move"
        self.traps("gone", both, names=self.NAMES + " ^l0")

    def test_lives(self):
        for number, arm in ((5, 2), (9, 0), (6, 1), (-1, 1)):
            machine = self.leaves((), f"place 0 0; num {number}; lives 1 5 2 9 0", names=self.NAMES)
            self.assertEqual(machine.contents(1, 0)[1], arm)
        machine = self.leaves((), "place 0 0; num 3; lives 0; place 0 0; field 1; arm 0; field 0; num 8; store; place 0 0; num 4; lives 0",
                              names=self.NAMES)
        self.assertEqual(machine.contents(1, 0), (None, 0, (8, None, ())))
        held = "place 0 0; new; place 0 0; load; aim; place 0 0; load; gone; num 3; lives 1 3 0"
        self.traps("gone", held, names="^l2")
        self.traps("gone", held.replace("num 3; lives 1 3 0", "field 1; become 0"), names="^l2")

    def test_move_carries_living_arms(self):
        rows = "place 0 0; field 1; become 2; place 0 0; field 1; arm 2; field 0; set 4; store; place 0 1; place 0 0; move"
        machine = self.leaves((), rows, names=self.NAMES + " " + self.NAMES)
        self.assertEqual(machine.contents(1, 1), (None, 2, ((4,),)))
        rows = rows.replace("place 0 1; place 0 0; move", "place 0 1; field 1; place 0 0; field 1; move")
        machine = self.leaves((), rows, names=self.NAMES + " " + self.NAMES)
        self.assertEqual(machine.contents(1, 1), (None, 2, ((4,),)))


class WindowOrdersTest(Machines, unittest.TestCase):
    def test_writing(self):
        rows = "place 0 0; rewrite; place 0 0; window; num 4; store; place 0 0; put"
        machine = self.leaves((), rows, names="<n>", files="f")
        self.assertEqual([machine.contents(1, 0), machine.files()], [("writing", (4,)), (("f", (4,)),)])
        # Behind put the window is unset.
        self.traps("unset", rows + "; place 0 0; window; load", names="<n>", files="f")
        self.traps("unset", rows + "; place 0 0; put", names="<n>", files="f")
        self.leaves(numbers(4), "place 0 0; rewrite; place 0 0; window; num 4; store; place 0 0; window; load", names="<n>", files="f")
        self.traps("unset", "place 0 0; rewrite; place 0 0; window; num 4; store; place 0 0; rewrite; place 0 0; put", names="<n>",
            files="f")

    def test_records_are_put_with_unset_cells(self):
        rows = "place 0 0; rewrite; place 0 0; window; field 0; num 4; store; place 0 0; put; place 0 0; put"
        machine = self.leaves((), rows, names="<(n,{(c)|(t)})>", files="f")
        self.assertEqual(machine.files(), (("f", ((4, None, ()), (None, None, ()))),))
        rows = "place 0 0; rewrite; place 0 0; window; field 1; become 1; place 0 0; window; field 1; arm 1; field 0; truth 1; store; place 0 0; put"
        machine = self.leaves((), rows + "; place 0 0; put", names="<(n,{(c)|(t)})>", files="f")
        self.assertEqual(machine.files(), (("f", ((None, 1, (True,)), (None, None, ()))),))

    def test_reading(self):
        told = {"names": "<n>", "files": "f", "inputs": (("f", (4, 5)),)}
        self.leaves(numbers(4, 5), "place 0 0; reset; place 0 0; window; load; place 0 0; get; place 0 0; window; load", **told)
        self.traps("end", "place 0 0; reset; place 0 0; get; place 0 0; get; place 0 0; window; load", **told)
        self.traps("end", "place 0 0; reset; place 0 0; get; place 0 0; get; place 0 0; get", **told)
        self.traps("file", "place 0 0; reset; place 0 0; window; num 4; store", **told)
        self.traps("file", "place 0 0; reset; place 0 0; window; unset", **told)
        self.traps("file", "place 0 0; window; load", **told)
        self.traps("file", "place 0 0; window; num 1; store", **told)
        self.traps("file", "place 0 0; get", **told)
        self.traps("file", "place 0 0; put", **told)
        self.traps("file", "place 0 0; eof", **told)
        machine = self.leaves((("t", False),), "place 0 0; reset; place 0 0; eof", **told)
        self.assertEqual(machine.contents(1, 0), ("reading", (4, 5)))
        self.leaves((("t", True),), "place 0 0; reset; place 0 0; get; place 0 0; get; place 0 0; eof", **told)
        self.traps("file", "place 0 1; reset", names="<n> <n>", files="f")

    def test_moves_through_windows(self):
        told = {"names": "<(n,c)> (n,c)", "files": "f"}
        self.leaves((), "place 0 0; reset; place 0 1; place 0 0; window; move", inputs=(("f", ((1, "a"),)),), **told)
        self.traps("end", "place 0 0; reset; place 0 1; place 0 0; window; move", inputs=(("f", ()),), **told)
        self.traps("file", "place 0 1; place 0 0; window; move", **told)
        self.traps("file", "place 0 0; window; place 0 1; move", **told)
        # The upper one's traps come first.
        self.traps("end", "place 0 0; reset; place 0 0; window; dup; move", inputs=(("f", ()),), **told)
        self.traps("file", "place 0 0; reset; place 0 0; window; dup; move", inputs=(("f", ((1, "a"),)),), **told)

    def test_putting_through_windows(self):
        told = {"names": "<(^l0,{(n)|(c)})>", "files": "f"}
        self.traps("file", "place 0 0; window; field 0; new", **told)
        self.traps("file", "place 0 0; window; field 1; become 0", **told)
        self.traps("file", "place 0 0; window; num 1; lives 0", **told)
        self.leaves((), "place 0 0; rewrite; place 0 0; window; field 0; new; place 0 0; window; num 1; lives 0", **told)
        self.traps("file", "place 0 0; window; field 1; arm 0", **told)
        self.traps("arm", "place 0 0; rewrite; place 0 0; window; field 1; arm 0", **told)

    def test_arms_of_what_is_read(self):
        told = {"names": "<({(n)|(c)})>", "files": "f"}
        rows = "place 0 0; reset; place 0 0; window; field 0; arm 1; field 0; load"
        self.leaves((("c", "x"),), rows, inputs=(("f", ((1, ("x",)),)),), **told)
        self.traps("arm", "place 0 0; reset; place 0 0; window; field 0; arm 1", inputs=(("f", ((0, (5,)),)),), **told)
        both = (("f", ((1, ("x",)), (0, (5,)))),)
        held = "place 0 0; reset; place 0 0; window; field 0; arm 1; field 0; place 0 0; get; "
        self.traps("arm", held + "load", inputs=both, **told)
        self.traps("end", held + "place 0 0; get; load", inputs=both, **told)

    def test_pointers_in_files_are_told_by_words(self):
        rows = "place 0 0; rewrite; place 0 0; window; nil l0; store; place 0 0; put; place 0 0; window; new; place 0 0; put"
        machine = self.leaves((), rows, names="<^l0>", files="f")
        self.assertEqual(machine.files(), (("f", ("nil", "piece")),))


class TextOrdersTest(Machines, unittest.TestCase):
    TOLD = {"names": "<text>", "files": "f"}

    def read(self, text):
        return {"names": "<text>", "files": "f", "inputs": (("f", text),)}

    def test_reading(self):
        self.leaves(numbers(12), "place 0 0; reset; place 0 0; readn", **self.read(" \n12"))
        self.leaves((("c", "a"), ("c", " ")), "place 0 0; reset; place 0 0; readc; place 0 0; readc", **self.read("a\nb"))
        self.leaves((("t", False), ("t", True)), "place 0 0; reset; place 0 0; eoln; place 0 0; get; place 0 0; eoln", **self.read("a"))
        self.leaves((("c", "b"),), "place 0 0; reset; place 0 0; readln; place 0 0; readc", **self.read("a\nb"))
        self.leaves((("c", " "),), "place 0 0; reset; place 0 0; window; load", **self.read("\n"))

    def test_reading_traps(self):
        for row in ("readn", "readc", "eoln", "readln", "get"):
            self.traps("file", f"place 0 0; {row}", **self.TOLD)
            self.traps("file", f"place 0 0; rewrite; place 0 0; {row}", **self.TOLD)
            self.traps("end", f"place 0 0; reset; place 0 0; {row}", **self.read(""))
        self.traps("file", "place 0 0; eof", **self.TOLD)
        self.leaves((("t", True),), "place 0 0; rewrite; place 0 0; eof", **self.TOLD)
        machine = self.traps("figures", "place 0 0; reset; place 0 0; readn", **self.read(" -x"))
        # What a trapped reading went by is gone by; its contents are told as they were.
        self.assertEqual(machine.engine.boxes["f"].file.behind, " -")
        self.traps("beyond", "place 0 0; reset; place 0 0; readn", **self.read("2147483648"))
        self.traps("end", "place 0 0; reset; place 0 0; readn", **self.read(" \n "))
        self.leaves(numbers(-MAXINT), "place 0 0; reset; place 0 0; readn", **self.read("-2147483647"))
        self.traps("file", "place 0 0; reset", **self.TOLD)

    def test_writing(self):
        rows = "place 0 0; rewrite; place 0 0; num 7; num 3; writen; place 0 0; truth 1; num 5; writet; place 0 0; sign 65; num 2; writec"
        machine = self.leaves((), rows + "; place 0 0; string 97 98; num 1; writes; place 0 0; writeln", **self.TOLD)
        self.assertEqual(machine.files(), (("f", "  7 true Aa\n"),))
        self.assertEqual(machine.contents(1, 0), ("writing", "  7 true Aa\n"))

    def test_writing_traps(self):
        for value, row in (("num 7", "writen"), ("truth 0", "writet"), ("sign 65", "writec"), ("string 65", "writes")):
            self.traps("file", f"place 0 0; {value}; num 3; {row}", **self.TOLD)
            self.traps("width", f"place 0 0; rewrite; place 0 0; {value}; num 0; {row}", **self.TOLD)
            self.traps("width", f"place 0 0; rewrite; place 0 0; {value}; num 256; {row}", **self.TOLD)
            self.traps("file", f"place 0 0; {value}; num 0; {row}", **self.TOLD)
            self.leaves((), f"place 0 0; rewrite; place 0 0; {value}; num 255; {row}", **self.TOLD)
        self.traps("file", "place 0 0; writeln", **self.TOLD)
        # The signs of what is written come ahead of the file and the width.
        self.traps("unset", "place 0 0; place 0 1; num 0; writes", names="<text> 2*c", files="f")
        rows = "place 0 0; place 0 1; new; place 0 1; load; aim; place 0 1; load; gone; num 0; writes"
        self.traps("gone", rows, names="<text> ^l3", files="f")

    def test_windows_of_texts(self):
        rows = "place 0 0; rewrite; place 0 0; window; sign 90; store; place 0 0; put"
        machine = self.leaves((), rows, **self.TOLD)
        self.assertEqual(machine.files(), (("f", "Z"),))
        self.traps("unset", rows + "; place 0 0; put", **self.TOLD)
        self.traps("file", "place 0 0; put", **self.TOLD)


class FlowOrdersTest(Machines, unittest.TestCase):
    def doings(self, rows, many, names=""):
        machine = Machine(unit_of_rows(rows, names), ())
        machine.run(many)
        return machine

    def test_jumps(self):
        rows = ["jump 3", "trap case", "label 3", "line 5", "num 4", "drop", "leave"]
        machine = self.doings(rows, 1)
        self.assertEqual([machine.at, machine.at_line], [("p0", 3), 0])
        self.assertEqual([machine.step(), machine.at, machine.at_line], [None, ("p0", 5), 5])

    def test_unless(self):
        rows = ["truth {}", "unless 3", "line 4", "leave", "label 3", "label 4", "leave"]
        machine = self.doings([rows[0].format(1), *rows[1:]], 2)
        self.assertEqual([machine.at, machine.workspace()], [("p0", 2), ()])
        machine = self.doings([rows[0].format(0), *rows[1:]], 2)
        self.assertEqual(machine.at, ("p0", 5))

    def test_table(self):
        rows = ["num {}", "table 5 1 - 2 1", "label 1", "trap end", "label 2", "trap file"]
        for number, at in ((5, 3), (7, 5), (8, 3)):
            machine = self.doings([rows[0].format(number), *rows[1:]], 2)
            self.assertEqual([machine.at, machine.workspace()], [("p0", at), ()])
        for number in (4, 6, 9):
            machine = self.doings(["line 3", rows[0].format(number), *rows[1:]], 2)
            self.assertEqual([machine.at, machine.ended], [("p0", 2), ("trap", "case", 3)])
            self.assertEqual(machine.workspace(), numbers(number))

    def test_trap(self):
        for word in ("unset", "stretch", "index", "full", "deep", "width"):
            machine = self.doings(["line 9", "num 1", "trap " + word], 9)
            self.assertEqual([machine.ended, machine.steps, machine.at], [("trap", word, 9), 2, ("p0", 2)])

    def test_bind(self):
        machine = self.leaves((("a[n]", ("name", 1, 0)),), "place 0 0; num 4; store; place 0 0; bind 1; place 0 1", names="n &n")
        self.assertEqual(machine.contents(1, 1), 4)
        machine = self.traps("unset", "place 0 1", names="n &n")
        self.assertEqual(machine.contents(1, 1), None)

    def test_leave(self):
        machine = self.doings(["num 1", "drop", "leave"], 3)
        self.assertEqual([machine.ended, machine.at, machine.at_line, machine.frames, machine.workspace()], [("done",), None, 0, (), ()])


if __name__ == "__main__":
    unittest.main()
