"""Beginnings of texts that a walk through the grammar makes: each goes on as it is told."""

import random
import unittest

from begunended.errors import BadSyntax
from begunended.printing import needed_brackets, printed
from begunended.trees import beginning, tree

SPELT = {"name": "ab", "number": "12", "string": "'x'"}


def walked(seed, most):
    """A whole text, as tokens: anything that could stand, and, after so many, the shortest way out."""
    rolls = random.Random(seed)
    row = []
    while True:
        could = beginning(" ".join(row))
        if could == (("(end)", 0),):
            return row
        if len(row) < most:
            chosen = rolls.choice(could)[0]
        else:
            chosen = min(could, key=lambda pair: (pair[1], pair[0]))[0]
        row.append(SPELT.get(chosen, chosen))


class WalksTest(unittest.TestCase):
    def test_each_walk_goes_on_with_as_many_tokens_as_told(self):
        for seed in range(12):
            row = walked(seed, 30)
            for at in range(30, len(row)):
                could = dict(beginning(" ".join(row[:at])))
                self.assertEqual(min(could.values()), len(row) - at)

    def test_one_token_goes_on_with_one_less(self):
        for seed in range(6):
            row = walked(seed, 25)
            for at in range(0, len(row), 3):
                head = " ".join(row[:at])
                for token, many in beginning(head):
                    if many:
                        behind = dict(beginning(head + " " + SPELT.get(token, token)))
                        self.assertEqual(min(behind.values()), many - 1, (head, token))

    def test_what_could_not_stand_is_no_beginning(self):
        tokens = (
            "and array begin case const div do downto else end file for function goto if in label mod nil not of or"
            " packed procedure program record repeat set then to type until var while with + - * = < > <> <= >= ( ) [ ]"
            " . .. , : := ; ^ forward ab 12 'x'").split()
        for seed in range(4):
            row = walked(seed, 20)
            for at in range(0, len(row), 2):
                head = " ".join(row[:at])
                could = [SPELT.get(token, token) for token, _ in beginning(head)]
                for token in tokens:
                    is_name = token == "forward" and "ab" in could
                    if token in could or is_name:
                        beginning(head + " " + token)
                    else:
                        self.assertRaises(BadSyntax, beginning, head + " " + token)

    def test_printed_walks_are_read_as_the_same(self):
        for seed in range(40):
            text = " ".join(walked(seed, 60))
            told = tree(text)
            short = printed(told)
            self.assertEqual(tree(short), told)
            self.assertLessEqual(len(short.split(" ")), len(text.split(" ")))
            self.assertEqual(printed(tree(short)), short)
            for at, to, other in needed_brackets(told):
                row = short.split(" ")
                self.assertEqual((row[at], row[to]), ("(", ")"))
                self.assertNotEqual(other, told)


if __name__ == "__main__":
    unittest.main()
