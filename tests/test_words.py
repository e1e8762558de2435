"""Words of code (section 13), ways of a case (section 14)."""

import random
import unittest

from begunended.cases import case_way
from begunended.compiling import compiled
from begunended.errors import BadNumbers, BadWords
from begunended.program import Program
from begunended.units import Unit
from begunended.words import unit_of, words
from tests.common import Refusing
from tests.test_units import ALL, PROGRAM, text_of

LIST = (
    "layout signature needs proc takes gives names files work line label end num truth sign set nil string place handed bind field arm"
    " become lives index aim window load store move unset drop dup look within add sub mul div mod neg abs sqr odd ordt ordc chr tru and"
    " or not eq ne lt le gt ge same unlike seq sne inside around one span join meet less in text jump unless table call callh hand leave"
    " far new gone reset rewrite get put eof eoln readn readc readln writeln writen writet writec writes trap -").split()
EVERY = [
    "num -5", "num 2147483647", "truth 1", "sign 65", "set", "set 0 127", "nil l0", "string 65 66", "place 0 0", "handed 0 0", "bind 0",
    "field 1", "arm 0", "become 0", "lives 1 -3 0", "index 1 3", "aim", "window", "load", "store", "move", "unset", "drop", "dup",
    "look -1 1", "within 0 127", "add", "sub", "mul", "div", "mod", "neg", "abs", "sqr", "odd", "ordt", "ordc", "chr", "tru", "and", "or",
    "not", "eq", "ne", "lt", "le", "gt", "ge", "same", "unlike", "seq", "sne", "inside", "around", "one", "span", "join", "meet", "less",
    "in", "text ge", "jump 3", "unless 3", "table -2 3 - 3", "call p1", "callh g0", "hand p1 g1", "leave", "far 1 0", "new", "gone", "reset",
    "rewrite", "get", "put", "eof", "eoln", "readn", "readc", "readln", "writeln", "writen", "writet", "writec", "writes", "trap arm",
    "trap end", "trap below", "label 3", "line 9999"]


class WordsTest(Refusing, unittest.TestCase):
    def setUp(self):
        self.unit = Unit(text_of(ALL[:11] + EVERY + ALL[11:]))

    def test_example_of_the_document(self):
        unit = Unit(
            "layout l0 (n,^l0)\nproc p0 -\ntakes\ngives -\nnames ^l0 n\nfiles\nwork 2\nline 1\nplace 0 0\nnew\n"
            "place 0 1\nnum 7\nstore\nleave\nend")
        self.assertEqual([unit_of(words(unit)) == unit, words(unit)[:4]], [True, (15, 3, 1, 1001)])

    def test_every_order_and_head_row(self):
        told = words(self.unit)
        self.assertIs(type(told), tuple)
        self.assertEqual(unit_of(told), self.unit)
        wanted = []
        rows = self.unit.text.split("\n")
        wanted.append(len(rows))
        for row in rows:
            wanted.append(len(row.split(" ")))
            for word in row.split(" "):
                if word in LIST:
                    wanted.append(LIST.index(word) + 1)
                elif word.lstrip("-").isdigit():
                    wanted += [1000, int(word)]
                else:
                    wanted += [1001, len(word)] + [ord(sign) for sign in word]
        self.assertEqual(told, tuple(wanted))

    def test_listed_words_wherever_they_stand(self):
        rows = [row.replace("p0", "add") for row in PROGRAM]
        told = words(Unit(text_of(rows)))
        self.assertEqual(told[:5], (8, 3, 4, 37, len(LIST)))
        self.assertEqual(LIST[36], "add")
        self.assertEqual(unit_of(told).procs, ("add",))
        # The same spelled by its signs is another row of integers.
        other = told[:3] + (1001, 3, 97, 100, 100) + told[4:]
        self.refused(BadWords, other, unit_of, other)

    def test_values_of_any_kind(self):
        told = words(Unit(text_of(PROGRAM)))
        for value in (None, 0, "", "words", (), [], {}, True, (1,), (0,), (-1,), (1, 0), (1, 1, 12), (1, 1, 1000, 5), (True,), list(told), (None,),
                      told + (0,), told + (1,), (told[0] + 1,) + told[1:], (told[0] - 1,) + told[1:], ("8",) + told[1:], (told,), (8, 3, 4, 1001, 10 ** 30),
                      (10 ** 40,), (1, 10 ** 40), (3, -5), (8, 3, 4, 1001, 2, 112, 300), (8, 3, 4, 1001, 2, 112, 10)):
            self.refused(BadWords, value, unit_of, value)
        self.assertEqual(unit_of(told).text, text_of(PROGRAM))

    def test_integers_cut_short_and_others_otherwise(self):
        told = words(self.unit)
        for at in range(0, len(told), 3):
            self.refused(BadWords, told[:at], unit_of, told[:at])
        rolls = random.Random(1)
        for _ in range(300):
            at = rolls.randrange(len(told))
            value = told[:at] + (rolls.choice((0, 1, -1, 12, 94, 95, 1000, 1001, 1002, told[at] + 1, True, None)),) + told[at + 1:]
            try:
                unit = unit_of(value)
            except BadWords as bad:
                self.assertIs(bad.value, value)
            else:
                self.assertEqual(words(unit), value)

    def test_words_that_are_no_unit_s(self):
        told = words(Unit(text_of(PROGRAM)))
        self.assertEqual(told[-2:], (1, 12))
        value = told[:-2] + (1, 11)
        self.refused(BadWords, value, unit_of, value)

    def test_plain_units(self):
        unit = compiled(Program("program p(output); var x: char; begin x := 'a'; write(x) end."))
        self.assertEqual(unit_of(words(unit)).text, unit.text)


def brute(numbers):
    """The least price, and the first way of it, by trying all ways."""
    ways = []
    if numbers[-1] - numbers[0] <= 63:
        ways.append((4 + numbers[-1] - numbers[0], ("table", numbers[0], numbers[-1])))
    for at in range(1, len(numbers)):
        left, right = brute(numbers[:at]), brute(numbers[at:])
        ways.append((4 + left[0] + right[0], ("split", numbers[at - 1], left[1], right[1])))
    least = min(price for price, _ in ways)
    return [way for way in ways if way[0] == least][0]


class CaseWayTest(Refusing, unittest.TestCase):
    def test_examples_of_the_document(self):
        self.assertEqual(case_way((3,)), (4, ("table", 3, 3)))
        self.assertEqual(case_way((1, 2, 5)), (8, ("table", 1, 5)))
        self.assertEqual(case_way((1, 2, 90)), (13, ("split", 2, ("table", 1, 2), ("table", 90, 90))))

    def test_ties(self):
        # A table of span 8 costs 12, as a split does: 4 + 4 + 4.
        self.assertEqual(case_way((0, 8)), (12, ("table", 0, 8)))
        self.assertEqual(case_way((0, 9)), (12, ("split", 0, ("table", 0, 0), ("table", 9, 9))))
        # Three far apart: the split at the least number.
        self.assertEqual(case_way((0, 100, 200))[1][:2], ("split", 0))
        self.assertEqual(case_way((0, 100, 200, 300))[1][:2], ("split", 0))

    def test_spans(self):
        many = tuple(range(64))
        self.assertEqual(case_way(many), (67, ("table", 0, 63)))
        self.assertEqual(case_way((-63,) + tuple(range(-62, 1))), (67, ("table", -63, 0)))
        numbers = tuple(range(63)) + (64,)
        price, way = case_way(numbers)
        self.assertEqual((price, way[0]), (4 + 4 + 62 + 4, "split"))
        self.assertEqual(way, ("split", 62, ("table", 0, 62), ("table", 64, 64)))
        numbers = tuple(range(0, 64 * 50, 50))
        self.assertEqual(case_way(numbers)[0], 64 * 4 + 63 * 4)
        self.assertEqual(case_way((-2147483647, 2147483647))[0], 12)

    def test_by_trying_all_ways(self):
        rolls = random.Random(3)
        for many in range(1, 9):
            for spread in (10, 25, 60, 150):
                numbers = tuple(sorted(rolls.sample(range(-spread, spread), many)))
                self.assertEqual(case_way(numbers), brute(numbers), numbers)

    def test_values_of_any_kind(self):
        for value in (None, 0, True, "", "1", (), [], [1], (1, 1), (2, 1), (True,), (1, True), (0, "1"), (None,), ((1,),), {1: 2},
                      tuple(range(65)), (2147483648,), (-2147483648,), (1, [2])):
            self.refused(BadNumbers, value, case_way, value)


if __name__ == "__main__":
    unittest.main()
