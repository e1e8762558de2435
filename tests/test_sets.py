"""Sets for all sets (section 9)."""

import itertools
import random
import unittest

from begunended.errors import BadName, BadSaying, BadSayings, BadSet, BadWorld, NoWorld, Wide
from begunended.settexts import holds, same_sets, set_names, shows_same_sets, worth
from begunended.setworlds import follows, least_quarrels, shows_follows, sure
from tests.common import Refusing

NINE = "a + b + c + d + e + f + g + h + i"
EIGHT = "a + b + c + d + e + f + g + h"
NO_SETS = (
    None, 5, True, (), ["a"], "", "a b", "a +", "+ a", "(a", "a)", "()", "[1", "1", "[1,]", "[,1]", "[1..]", "[..1]", "[128]",
    "[0..128]", "[a]", "a / b", "a and b", "begin", "a..b", "[1 2]", "a = b", "[1..2..3]", "'a'", "[-1]", "a . b", "a := b",
    "[(1)]", "a{", "a'", "[]]", "a in b", "not a", "[", "a + [", "[1,", "[1..", "a '+' b", "a * (", "'[' ]", "[1 ',' 2]", NINE)


class TextsTest(Refusing, unittest.TestCase):
    def test_examples_of_the_document(self):
        self.assertEqual(same_sets("a - b - c", "a - (b + c)"), ("same",))
        self.assertEqual(same_sets("a * b + c", "a * (b + c)")[0], "apart")
        self.assertEqual(worth("[3..5, 9] - x", (("x", (4,)),)), (3, 5, 9))

    def test_names(self):
        for text, names in (
                ("a", ("a",)), ("B + a * B", ("a", "b")), ("[]", ()), ("[1] {a} + (* b *) X1\n- c", ("c", "x1")),
                ("((a))", ("a",)), ("forward", ("forward",)), (EIGHT, tuple("abcdefgh")), (EIGHT + " + A", tuple("abcdefgh"))):
            self.assertEqual(set_names(text), names)
        for text in NO_SETS:
            self.refused(BadSet, text, set_names, text)

    def test_deep_brackets(self):
        self.assertEqual(worth("(" * 40 + "[1]" + ")" * 40, ()), (1,))

    def test_worth(self):
        world = (("a", (0, 1, 2)), ("b", (1, 127)), ("c", ()))
        for text, held in (
                ("a + b", (0, 1, 2, 127)), ("a * b", (1,)), ("a - b", (0, 2)), ("a - b - a", ()), ("a - (b - a)", (0, 1, 2)),
                ("a + b * c", (0, 1, 2)), ("(a + b) * c", ()), ("b - [127] + [128..5, 5]", None), ("[5..3]", ()),
                ("[0, 127]", (0, 127)), ("[126..127]", (126, 127)), ("[]", ()), ("[2, 1]", (1, 2)), ("a * b * c + a", (0, 1, 2)),
                ("a - b + b", (0, 1, 2, 127)), ("a - [1..127] * b", (0, 2)), ("A", (0, 1, 2))):
            if held is None:
                self.refused(BadSet, text, worth, text, world)
            else:
                self.assertEqual(worth(text, world), held, text)

    def test_worlds_that_are_none(self):
        for world in (
                None, [], "a", {}, (("a", (1,)),) * 2, (("b", ()), ("a", ())), (("a", [1]),), (("a", (1, 1)),), (("a", (2, 1)),),
                (("a", (128,)),), (("a", (-1,)),), (("a", (True,)),), (("A", ()),), (("begin", ()), ("a", ())), (("a",),),
                (("A", ()), ("a", ())), (("a", ()), ("a b", ())), (["a", ()],), (("b", ()),), (), (("1a", ()), ("a", ())), (("", ()), ("a", ())), ((1, ()),), (("a", ("1",)),)):
            self.refused(BadWorld, world, worth, "a", world)
            self.refused(BadWorld, world, holds, "a = a", world)
        # More names than a set text can have.
        world = tuple((chr(97 + k), (k,)) for k in range(20))
        self.assertEqual(worth("t", world), (19,))
        self.assertEqual(worth("[]", (("forward", ()),)), ())

    def test_holds(self):
        world = (("a", (1, 2)), ("b", (2,)))
        for saying, is_so in (
                ("a = b", False), ("a <> b", True), ("b <= a", True), ("a <= b", False), ("a >= b", True), ("b >= a", False),
                ("1 in a", True), ("1 in b", False), ("3 in []", False), ("a = b + [1]", True), ("a <= a", True), ("0 in [0]", True),
                ("127 in [0..127]", True), ("A-B={x}[1]", True), ("a = [1..2]", True), ("a <> [1, 2]", False)):
            self.assertIs(holds(saying, world), is_so, saying)
        self.refused(BadSaying, "a", holds, "a", None)

    def test_both_sides_may_have_more_names_together(self):
        world = tuple((name, ()) for name in "abcdefghi")
        self.assertIs(holds(EIGHT + " = b + i", world), True)
        for saying in (NINE + " = a", "a = " + NINE, "1 in " + NINE):
            self.refused(BadSaying, saying, holds, saying, world)

    def test_what_is_no_saying(self):
        for saying in (
                None, 1, (), "", "a", "a < b", "a > b", "a = b = c", "a = ", "= a", "128 in a", "a in b", "[1] in a", "1 in a in b",
                "1 in 2", "-1 in a", "1 = a", "a == b", "(a = b)", "a <= b <= c", "1 2 in a", "a = b)", "'a' in b", "a <> {", "in a"):
            self.refused(BadSaying, saying, holds, saying, ())
            self.refused(BadSaying, saying, follows, (), saying)
            self.refused(BadSayings, (saying,), follows, (saying,), "a = a")
            self.refused(BadSayings, ("a = a", saying), sure, ("a = a", saying), "a")
            self.refused(BadSayings, (saying,), least_quarrels, (saying,))


class SameTest(Refusing, unittest.TestCase):
    def test_same_and_apart(self):
        for one, other in (
                ("a", "A"), ("a + b", "b + a"), ("a * (b + c)", "a * b + a * c"), ("a - b", "a - a * b"), ("[1..3]", "[1, 2, 3]"),
                ("a - a", "[]"), ("(a + b) - b", "a - b"), ("a + [5..4]", "a"), ("a * [0..127]", "a"), ("[127..0]", "[]"),
                ("a + b - (a - b) - (b - a)", "a * b")):
            self.assertEqual(same_sets(one, other), ("same",), (one, other))
            self.assertIs(shows_same_sets(one, other, ("same",)), True)
            self.assertIs(shows_same_sets(one, other, ("apart", 1, ("a",))), False)
        for one, other in (
                ("a", "b"), ("a - b - c", "a - (b - c)"), ("a", "a + [127]"), ("[0]", "[]"), ("a * [0..126]", "a"), (EIGHT, "[]"),
                ("a + b * c", "(a + b) * c")):
            told = same_sets(one, other)
            self.assertEqual(told[0], "apart")
            self.assertIs(shows_same_sets(one, other, told), True)
            self.assertIs(shows_same_sets(one, other, ("same",)), False)
            _, ordinal, names = told
            world = tuple((name, (ordinal,) if name in names else ()) for name in sorted(set_names(one + "+" + other)))
            self.assertNotEqual(ordinal in worth(one, world), ordinal in worth(other, world))

    def test_any_right_answer_and_no_wrong_one(self):
        one, other = "a - b - c", "a - (b - c)"
        for ordinal in (0, 5, 127):
            for size in range(4):
                for names in itertools.combinations("abc", size):
                    is_right = names in (("a", "c"), ("a", "b", "c"))
                    self.assertIs(shows_same_sets(one, other, ("apart", ordinal, names)), is_right, names)
        self.assertIs(shows_same_sets("a", "a + [7]", ("apart", 7, ())), True)
        self.assertIs(shows_same_sets("a", "a + [7]", ("apart", 7, ("a",))), False)
        self.assertIs(shows_same_sets("a", "a + [7]", ("apart", 8, ())), False)
        for value in (
                None, 0, "same", (), ["same"], ("same", 1), ("apart",), ("apart", 1), ("apart", 128, ("a", "c")), ("apart", -1, ("a", "c")),
                ("apart", True, ("a", "c")), ("apart", 1, ["a", "c"]), ("apart", 1, ("c", "a")), ("apart", 1, ("a", "a", "c")),
                ("apart", 1, ("a", "c", "d")), ("apart", 1, ("A", "c")), ("apart", 1, ("a", 1)), ("apart", 1, "ac"), ("Apart", 1, ("a", "c")),
                ("apart", 1, ("a", "c"), 0), [("same",)], {"same": 1}, (1, 2, 3), (("same",),), ("apart", "1", ("a", "c")),
                ("apart", None, ("a", "c")), ("apart", 1, None), ("apart", 1, ("a", ("c",)))):
            self.assertIs(shows_same_sets(one, other, value), False, value)

    def test_errors_in_sequence(self):
        for text in NO_SETS:
            self.refused(BadSet, text, same_sets, text, None)
            self.refused(BadSet, text, same_sets, "a", text)
            self.refused(BadSet, text, shows_same_sets, "a", text, None)
        self.refused(Wide, 8, same_sets, EIGHT, "i")
        self.refused(Wide, 8, shows_same_sets, EIGHT, "i", None)
        self.assertEqual(same_sets(EIGHT, "h + a")[0], "apart")


class FollowsTest(Refusing, unittest.TestCase):
    def test_examples_of_the_document(self):
        self.assertEqual(follows(("a <= b", "b <= c"), "a <= c"), ("follows",))
        self.assertEqual(follows(("a * b = []",), "5 in a - b")[0], "world")
        self.assertEqual(follows(("a <> b", "a <= b", "b <= [7]"), "7 in b"), ("follows",))
        three = ("a <> b", "a + b <= [7]", "a <= b")
        self.assertEqual([len(part) for part in sure(three, "a")], [0, 128])
        self.assertEqual(sure(three, "b")[0], (7,))
        self.assertEqual(least_quarrels(("3 in a", "a <= b", "b = []", "a <> b")), ((0, 1, 2), (1, 2, 3)))

    def test_follows_and_worlds(self):
        for sayings, saying, is_so in (
                ((), "a = a", True), ((), "a <= a + b", True), ((), "a = b", False), ((), "a <> a", False), ((), "1 in a", False),
                (("a = b",), "b = a", True), (("a = b", "b = c"), "a = c", True), (("a <> b",), "b <> a", True),
                (("a <= b", "b <= a"), "a = b", True), (("1 in a",), "a <> []", True), (("a <> []",), "1 in a", False),
                (("a <> []", "a <= [1]"), "1 in a", True), (("1 in []",), "a <> a", True), (("a <> a",), "5 in []", True),
                (("a <> b", "b <> c", "a + b + c <= [1]"), "a = c", True), (("a <> b", "b <> c"), "a <> c", False),
                (("a >= b",), "b <= a", True), (("a >= b",), "a <= b", False), (("a * b = []", "a + b = [0..127]"), "127 in a - b", False),
                (("a <> b", "a <> c", "b <> c", "a + b + c <= [4]"), "0 in a", True), ((), "3 in [3]", True)):
            told = follows(sayings, saying)
            self.assertEqual(told[0], "follows" if is_so else "world", (sayings, saying))
            self.assertIs(shows_follows(sayings, saying, told), True)
            self.assertIs(shows_follows(sayings, saying, ("follows",)), is_so)

    def test_a_world_has_all_names(self):
        told = follows(("z = z", "b <> []"), "a = []")
        self.assertEqual([name for name, _ in told[1]], ["a", "b", "z"])
        held = dict(told[1])
        self.assertTrue(held["a"] and held["b"])

    def test_any_right_world_and_no_wrong_one(self):
        sayings, saying = ("a <= b",), "5 in a"
        for world, is_right in (
                ((("a", ()), ("b", ())), True), ((("a", (1,)), ("b", (1, 5))), True), ((("a", (5,)), ("b", (5,))), False),
                ((("a", (1,)), ("b", ())), False), ((("a", ()),), False), ((("a", ()), ("b", ()), ("c", ())), False),
                ((("b", ()), ("a", ())), False), ((("a", [1]), ("b", (1,))), False), ([("a", ()), ("b", ())], False),
                ((("a", (2, 1)), ("b", (1, 2))), False), ((("a", (True,)), ("b", (1,))), False), ((["a", ()], ("b", ())), False)):
            self.assertIs(shows_follows(sayings, saying, ("world", world)), is_right, world)
        for value in (None, (), "follows", ["follows"], ("follows", 1), ("world",), ("world", None), ("world", (), 1), (0,), {}):
            self.assertIs(shows_follows(sayings, saying, value), False, value)

    def test_errors_in_sequence(self):
        for sayings in (None, [], "a = a", ("a = a",) * 7, ("a",), (1,), ["a = a"], ("a = a", None)):
            self.refused(BadSayings, sayings, follows, sayings, None)
            self.refused(BadSayings, sayings, shows_follows, sayings, None, None)
            self.refused(BadSayings, sayings, sure, sayings, None)
            self.refused(BadSayings, sayings, least_quarrels, sayings)
        self.refused(BadSaying, "x", follows, (EIGHT + " = i",), "x")
        self.refused(Wide, 8, follows, (EIGHT + " = i",), "a = a")
        self.refused(Wide, 8, follows, (EIGHT + " = []",), "i = i")
        self.refused(Wide, 8, shows_follows, (EIGHT + " = []",), "i = i", None)
        self.refused(BadName, "k", sure, (EIGHT + " = i",), "k")
        self.refused(Wide, 8, sure, (EIGHT + " = i",), "a")
        self.refused(Wide, 8, least_quarrels, (EIGHT + " = i",))
        self.assertEqual(follows(("a = a",) * 6, EIGHT + " <> []")[0], "world")
        for name in (None, "A", "", "b", 1, ("a",), "begin"):
            self.refused(BadName, name, sure, ("a <> a",), name)
        self.refused(BadName, "a", sure, (), "a")
        self.refused(NoWorld, ("a <> a",), sure, ("a <> a",), "a")
        self.refused(NoWorld, ("1 in a", "a = []"), sure, ("1 in a", "a = []"), "a")

    def test_least_quarrels(self):
        for sayings, told in (
                ((), ()), (("a = a",), ()), (("1 in []",), ((0,),)), (("a <> a", "b <> b"), ((0,), (1,))),
                (("a = b", "a <> b", "b <> a"), ((0, 1), (0, 2))), (("1 in a", "a = []", "a = []"), ((0, 1), (0, 2))),
                (("a <> b", "b <> c", "a <> c", "a + b + c <= [1]"), ((0, 1, 2, 3),)),
                (("a = b", "b = c", "c = d", "d = e", "e = f", "a <> f"), ((0, 1, 2, 3, 4, 5),))):
            self.assertEqual(least_quarrels(sayings), told, sayings)


ORDINALS = (0, 1, 2, 3, 4)
SETS = ("a", "b", "a + b", "a - b", "b - a", "a * b", "[]", "[0]", "[1]", "[0, 1]", "a + [0]", "b - [1]", "a * [0..1]", "a - [2..127]")


def random_saying(rolls):
    if rolls.random() < 0.2:
        return "{} in {}".format(rolls.choice((0, 1)), rolls.choice(SETS))
    return "{} {} {}".format(rolls.choice(SETS), rolls.choice(("=", "<>", "<>", "<=", ">=")), rolls.choice(SETS))


class AllWorldsTest(unittest.TestCase):
    """All worlds over five ordinals: two that sayings name, three that stand for all others."""

    def setUp(self):
        parts = [tuple(o for at, o in enumerate(ORDINALS) if bits >> at & 1) for bits in range(32)]
        self.worlds = [(("a", one), ("b", other)) for one in parts for other in parts]

    def kept(self, sayings):
        worlds = self.worlds
        for saying in sayings:
            worlds = [world for world in worlds if holds(saying, world)]
        return worlds

    def test_by_all_worlds(self):
        rolls = random.Random(5)
        for _ in range(40):
            sayings = tuple(random_saying(rolls) for _ in range(rolls.choice((1, 2, 2, 3))))
            saying = random_saying(rolls)
            worlds = self.kept(sayings)
            told = follows(sayings, saying)
            self.assertEqual(told[0] == "follows", all(holds(saying, world) for world in worlds), (sayings, saying))
            self.assertTrue(shows_follows(sayings, saying, told))
            self.quarrels(sayings)
            if worlds and "a" in "".join(sayings):
                within, without = sure(sayings, "a")
                held = [set(dict(world)["a"]) for world in worlds]
                for ordinal in (0, 1, 2):
                    self.assertEqual(ordinal in within, all(ordinal in one for one in held), sayings)
                    self.assertEqual(ordinal in without, not any(ordinal in one for one in held), sayings)
                self.assertEqual(2 in within, 127 in within)

    def quarrels(self, sayings):
        bad = []
        for size in range(1, len(sayings) + 1):
            for numbers in itertools.combinations(range(len(sayings)), size):
                if not any(set(lot) <= set(numbers) for lot in bad) and not self.kept([sayings[k] for k in numbers]):
                    bad.append(numbers)
        self.assertEqual(least_quarrels(sayings), tuple(bad), sayings)


if __name__ == "__main__":
    unittest.main()
