"""Units joined (section 13)."""

import itertools
import unittest

from begunended.checking import checked
from begunended.errors import BadUnits, Clash, Missing, Unfit, Wide
from begunended.joining import joined
from begunended.units import Unit
from begunended.words import unit_of, words
from tests.common import Refusing


def proc(name, outer, *code, takes="", gives="-", names=None, work=9):
    names = ("" if gives == "-" else " " + gives) if names is None else names
    return ["proc {} {}".format(name, outer), "takes" + takes, "gives " + gives, "names" + names, "work {}".format(work), *code, "end"]


def program(name, *code, names="", files="", work=9):
    return ["proc {} -".format(name), "takes", "gives -", "names" + names, "files" + files, "work {}".format(work), *code, "end"]


def unit(*parts):
    """A unit of heads, as strings, and procs, as lists of rows."""
    rows = []
    for part in parts:
        rows += [part] if isinstance(part, str) else part
    return Unit("\n".join(rows))


def piece(name, *parts):
    """A piece: what stands ahead of its program as strings, behind it as lists."""
    heads = [part for part in parts if isinstance(part, str)]
    return unit(*heads, program(name, "leave", work=0), *[part for part in parts if not isinstance(part, str)])


MAIN = unit("needs a p0 takes n gives -", program("p0", "num 1", "call a", "leave"))
ONE = piece("x", "needs b x takes gives -", proc("a", "x", "call b", "leave", takes=" n"))
TWO = piece("x", proc("b", "x", "call c", "leave"), proc("c", "b", "leave"), proc("d", "x", "leave"))


class JoinedTest(Refusing, unittest.TestCase):
    def test_pieces_are_put_together(self):
        whole = joined((MAIN, ONE, TWO))
        self.assertEqual(whole.needs, ())
        self.assertEqual(whole.procs, ("p0", "a", "b", "c"))
        self.assertEqual([whole.outer(name) for name in whole.procs], [None, "p0", "p0", "b"])
        self.assertEqual(whole.text, "\n".join(
            program("p0", "num 1", "call a", "leave") + proc("a", "p0", "call b", "leave", takes=" n") + proc("b", "p0", "call c", "leave")
            + proc("c", "b", "leave")))
        self.assertEqual(checked(whole)[0], "let")
        self.assertEqual(unit_of(words(whole)), whole)

    def test_other_sequences(self):
        for order in itertools.permutations((ONE, TWO)):
            whole = joined((MAIN, *order))
            self.assertEqual(sorted(whole.procs), ["a", "b", "c", "p0"])
            self.assertEqual(whole.outer("c"), "b")
            self.assertEqual(checked(whole)[0], "let")

    def test_a_unit_alone(self):
        alone = unit("layout l0 n", program("p0", "call a", "leave"), proc("a", "p0", "leave"), proc("b", "p0", "leave"))
        self.assertEqual(joined((alone,)), alone)
        # What no row calls is one of the first unit all the same.
        self.assertEqual(joined((alone,)).procs, ("p0", "a", "b"))
        needy = unit("needs q p0 takes gives -", program("p0", "leave"))
        self.assertEqual(joined((needy,)), unit(program("p0", "leave")))

    def test_layouts_and_signatures_told_alike(self):
        heads = ("layout l0 (n,^l1)", "layout l1 c", "signature g0 takes n gives -")
        main = unit(*heads, program("p0", "leave", names=" ^l0"), proc("q", "p0", "leave", takes=" n"))
        other = piece("z", "layout l1 c", "layout l2 s", "signature g1 takes gives n", "signature g0 takes n gives -")
        whole = joined((main, other))
        self.assertEqual(whole.layouts, ("l0", "l1", "l2"))
        self.assertEqual(whole.signatures, ("g0", "g1"))
        self.assertTrue(whole.text.startswith("layout l0 (n,^l1)\nlayout l1 c\nlayout l2 s\nsignature g0 takes n gives -\nsignature g1 takes gives n\nproc p0 -"))

    def test_bad_units(self):
        fat = [
            unit(program("x", "leave", work=0, names=" n")), unit(program("x", "leave", work=1)), unit(program("x", "line 1", "leave", work=0)),
            unit(program("x", "leave", work=0, names=" <n>", files=" a")), unit(program("x", "trap case", work=0)), MAIN]
        for units in [None, 5, "", [], (), [MAIN], MAIN, (MAIN, None), (None, ONE), (MAIN, "x"), (MAIN, (ONE,)), (MAIN,) + (ONE,) * 6, (True,), {}]:
            self.refused(BadUnits, units, joined, units)
        for other in fat:
            self.refused(BadUnits, (MAIN, ONE, other), joined, (MAIN, ONE, other))
            self.refused(BadUnits, (MAIN, other, ONE), joined, (MAIN, other, ONE))
        six = (unit(program("p0", "leave")),) + tuple(piece("x") for _ in range(5))
        self.assertEqual(joined(six), six[0])
        self.assertEqual(joined((fat[0], piece("x"))), fat[0])

    def test_clash(self):
        a = proc("a", "x", "leave")
        self.refused(Clash, ("a", 1, 3), joined, (MAIN, piece("x", a), piece("y"), piece("x", a)))
        self.refused(Clash, ("p0", 0, 1), joined, (MAIN, piece("x", proc("p0", "x", "leave"))))
        self.refused(Clash, ("l", 1, 3), joined, (MAIN, piece("x", "layout l n"), piece("x", "layout l n"), piece("x", "layout l c")))
        self.refused(Clash, ("g", 1, 2), joined, (
            MAIN, piece("x", "signature g takes gives -"), piece("x", "signature g takes n gives -")))
        self.refused(Clash, ("g", 1, 2), joined, (
            MAIN, piece("x", "signature g takes gives -"), piece("x", "signature g takes gives n")))
        # By units, then in sequence: layouts ahead of procs.
        one = piece("x", "layout m n", proc("a", "x", "leave"))
        two = piece("x", "layout m c", proc("a", "x", "leave"))
        self.refused(Clash, ("m", 1, 2), joined, (MAIN, one, two))
        self.refused(Clash, ("a", 1, 2), joined, (MAIN, piece("x", proc("a", "x", "leave")), piece("x", "layout z n", proc("a", "x", "leave")),
                                                 piece("x", "layout z c")))
        # Programs of pieces are left out; names of unlike sorts are no clash.
        joined((unit(program("p0", "leave")), piece("p0"), piece("p0", "layout p0 n"), piece("x", "signature p0 takes gives -")))

    def test_missing(self):
        self.refused(Missing, ("p0", "a"), joined, (MAIN,))
        self.refused(Missing, ("p0", "a", "b"), joined, (MAIN, ONE))
        self.refused(Missing, ("p0", "a", "b"), joined, (MAIN, ONE, piece("x", proc("c", "x", "leave"))))
        # The shortest, then the least: also from procs that nothing calls.
        main = unit(
            "needs z p0 takes gives -", "needs y p0 takes gives -", "needs w p0 takes gives -", program("p0", "call w", "leave"),
            proc("s", "p0", "call z", "leave"), proc("r", "p0", "call z", "call y", "leave"))
        other = piece("x", "needs v x takes gives -", proc("w", "x", "call v", "leave"))
        self.refused(Missing, ("r", "y"), joined, (main, other))
        some = piece("x", proc("y", "x", "leave"), proc("z", "x", "leave"))
        self.refused(Missing, ("p0", "w", "v"), joined, (main, other, some))
        # What is handed counts, and so does the program of a piece, whose rows stay as they are.
        handing = unit("signature g takes gives -", "needs h p0 takes gives -", program("p0", "hand h g", "drop", "leave"))
        self.refused(Missing, ("p0", "h"), joined, (handing,))
        calling = piece("x", proc("a", "x", "call x", "leave", takes=" n"))
        self.refused(Missing, ("p0", "a", "x"), joined, (MAIN, calling))

    def test_a_chain_leads_over_outers(self):
        main = unit("needs in1 p0 takes gives -", program("p0", "call in1", "leave"))
        other = piece("x", "needs far1 x takes gives -", proc("out1", "x", "call far1", "leave"), proc("in1", "out1", "leave"))
        self.refused(Missing, ("p0", "in1", "out1", "far1"), joined, (main, other))

    def test_unfit(self):
        for told in (
                proc("a", "x", "leave"), proc("a", "x", "leave", takes=" t"), proc("a", "x", "leave", takes=" n n"),
                proc("a", "x", "leave", takes=" n", gives="n"), proc("a", "x", "leave", takes=" &n")):
            self.refused(Unfit, "a", joined, (MAIN, piece("x", told)))
        self.refused(Unfit, "a", joined, (MAIN, piece("x", proc("m", "x", "leave"), proc("a", "m", "leave", takes=" n"))))
        # The first needed name, by units; also of what nothing calls.
        main = unit("needs u p0 takes n gives -", "needs a p0 takes n gives -", program("p0", "leave"))
        wrong = piece("x", proc("a", "x", "leave"), proc("u", "x", "leave"))
        self.refused(Unfit, "u", joined, (main, wrong))
        main = unit(program("p0", "leave"))
        self.refused(Unfit, "p0", joined, (main, piece("x", "needs p0 x takes gives -", proc("k", "x", "leave"))))

    def test_errors_in_sequence(self):
        clash = (MAIN, piece("x", "layout l n"), piece("x", "layout l c", proc("a", "x", "leave")))
        self.refused(Clash, ("l", 1, 2), joined, clash)
        self.refused(Missing, ("p0", "a", "b"), joined, (
            MAIN, piece("x", "needs b x takes gives -", proc("a", "x", "call b", "leave"))))

    def test_wide(self):
        names = ["q{}".format(k) for k in range(12)]
        calls = ["call " + name for name in names]
        first = unit(*["needs {} p0 takes gives -".format(name) for name in names], program("p0", *calls, "leave"))
        one = piece("x", *[proc(name, "x", "leave") for name in names[:6]])
        two = piece("x", *[proc(name, "x", "leave") for name in names[6:]])
        self.refused(Wide, 12, joined, (first, one, two))
        first = unit(*["needs {} p0 takes gives -".format(name) for name in names[:11]], program("p0", *calls[:11], "leave"))
        self.assertEqual(len(joined((first, one, two)).procs), 12)
        many = [piece("x", *["layout a{}{} n".format(k, m) for m in range(9)]) for k in range(3)]
        self.refused(Wide, 12, joined, (unit(program("p0", "leave")), *many))
        self.assertEqual(len(joined((unit(program("p0", "leave")), *many[:2], piece("x", *["layout b{} n".format(m) for m in range(6)]))).layouts), 24)
        many = [piece("x", *["signature a{}{} takes gives -".format(k, m) for m in range(6)]) for k in range(2)]
        self.assertEqual(len(joined((unit(program("p0", "leave")), *many)).signatures), 12)
        many = [piece("x", *["signature a{}{} takes gives -".format(k, m) for m in range(7)]) for k in range(2)]
        self.refused(Wide, 12, joined, (unit(program("p0", "leave")), *many))

    def test_heads_of_the_first_program_stay(self):
        main = unit(program("p0", "leave", names=" <text> <n> n", files=" a b"))
        self.assertEqual(joined((main, piece("x"))), main)


if __name__ == "__main__":
    unittest.main()
