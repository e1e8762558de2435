"""Tokens (section 4)."""

import unittest

from begunended.errors import BadToken
from begunended.heap import Heap
from begunended.tokens import tokens
from tests.common import Refusing

WORDS = (
    "and array begin case const div do downto else end file for function goto if in label mod nil not of or packed"
    " procedure program record repeat set then to type until var while with").split()
SIGNS = "+ - * = < > <> <= >= ( ) [ ] . .. , : := ; ^".split()


class TokensTest(Refusing, unittest.TestCase):
    def bad(self, text, line, column):
        self.refused(BadToken, (line, column), tokens, text)

    def told(self, text):
        return [row[:2] for row in tokens(text)]

    def test_the_documents_example(self):
        self.assertEqual(
            tokens("IF 3..4 {no} 'it''s'")[2:],
            (("sign", "..", 1, 5), ("number", 4, 1, 7), ("string", "it's", 1, 14)))

    def test_nothing(self):
        for text in ("", " ", "\n\n", "{}", "(**)", " { a\nb } "):
            self.assertEqual(tokens(text), ())

    def test_each_word_small_and_great(self):
        self.assertEqual(len(WORDS), 35)
        for word in WORDS:
            for spelt in (word, word.upper(), word.title(), word[0] + word[1:].upper()):
                self.assertEqual(tokens(spelt), (("word", word, 1, 1),))
            for name in (word + "x", word + "1", "x" + word):
                self.assertEqual(tokens(name.upper()), (("name", name, 1, 1),))

    def test_names(self):
        for spelt in ("a", "Z", "x1", "integer", "FORWARD", "a9Z", "endend", "b" * 300):
            self.assertEqual(tokens(spelt), (("name", spelt.lower(), 1, 1),))
        self.assertEqual(self.told("12ab3"), [("number", 12), ("name", "ab3")])
        self.bad("a_b", 1, 2)

    def test_each_sign(self):
        for sign in SIGNS:
            self.assertEqual(tokens(sign), (("sign", sign, 1, 1),))
        self.assertEqual(self.told(" ".join(SIGNS)), [("sign", sign) for sign in SIGNS])
        for sign in "!\"#$%&/?@\\_`|}~":
            self.bad("a " + sign, 1, 3)

    def test_the_longest_sign_first(self):
        rows = {
            "..": [".."], "...": ["..", "."], "....": ["..", ".."], ":=": [":="], "::=": [":", ":="], ":=:": [":=", ":"],
            "<=": ["<="], "<=>": ["<=", ">"], "<>": ["<>"], "<>=": ["<>", "="], "<<=": ["<", "<="], "><": [">", "<"],
            ">=": [">="], ">>=": [">", ">="], "=<": ["=", "<"], "=>": ["=", ">"], ".=": [".", "="], "*)": ["*", ")"],
            "()": ["(", ")"], "^.": ["^", "."]}
        for text, signs in rows.items():
            self.assertEqual(self.told(text), [("sign", sign) for sign in signs], text)

    def test_numbers(self):
        self.assertEqual(self.told("3..4"), [("number", 3), ("sign", ".."), ("number", 4)])
        self.assertEqual(self.told("3.4"), [("number", 3), ("sign", "."), ("number", 4)])
        self.assertEqual(self.told("-7"), [("sign", "-"), ("number", 7)])
        for text, number in (("0", 0), ("000", 0), ("2147483647", 2147483647), ("0" * 4000 + "2147483647", 2147483647)):
            self.assertEqual(tokens(text), (("number", number, 1, 1),))
            self.assertIs(type(tokens(text)[0][1]), int)
        for text in ("2147483648", "0002147483648", "9" * 11, "1" * 4400):
            self.bad("\n  " + text, 2, 3)

    def test_strings(self):
        rows = {
            "'a'": "a", "''''": "'", "' '": " ", "'it''s'": "it's", "''''''": "''", "'''a'": "'a", "'a'''": "a'",
            "'{x}'": "{x}", "'(*'": "(*", "'AbC'": "AbC", "'\"'": '"', "'end'": "end"}
        for text, told in rows.items():
            self.assertEqual(tokens(text), (("string", told, 1, 1),))
        self.assertEqual(self.told("'a' 'b'"), [("string", "a"), ("string", "b")])
        self.assertEqual(self.told("'a'b'c'"), [("string", "a"), ("name", "b"), ("string", "c")])
        self.assertEqual(tokens("'" + "x" * 300 + "'")[0][1], "x" * 300)

    def test_strings_without_signs_or_not_ended(self):
        for text in ("''", "'", "'a", "'a''", "'''", "'a\nb'", "'a\n'", "'''''", "''a'", "'' 'a'"):
            self.bad("x " + text, 1, 3)

    def test_comments(self):
        for text in ("{ }", "{ *)", "(* *)", "(* }", "(*)}", "(*)*)", "{(*}", "(*{*)", "{ ' }", "(* ** *)", "{{}", "{a\n*)"):
            self.assertEqual(self.told("a" + text + "b"), [("name", "a"), ("name", "b")], text)
        self.assertEqual(self.told("{ } }"[:3] + "a"), [("name", "a")])
        self.assertEqual(self.told("( * a"), [("sign", "("), ("sign", "*"), ("name", "a")])

    def test_comments_that_do_not_end(self):
        for text in ("{", "(*", "(*)", "{ *", "(* )", "{ ( * )", "(* a\n\n"):
            self.bad("ab\n  " + text, 2, 3)
        self.bad("{ } }", 1, 5)

    def test_line_feeds(self):
        self.assertEqual(tokens("a\n\n b{\n}c (*\n\n*) d\n"), (
            ("name", "a", 1, 1), ("name", "b", 3, 2), ("name", "c", 4, 2), ("name", "d", 6, 4)))

    def test_the_first_wrong_place_is_told(self):
        self.bad("a ! ''", 1, 3)
        self.bad("'b' \n '' !", 2, 2)
        self.bad("a\n$", 2, 1)

    def test_no_string(self):
        for value in (True, False, None, 0, 1, (), ("a",), [], ["a"], {}, b"a", Heap(1)):
            self.bad(value, 0, 0)

    def test_a_tuple_of_tuples(self):
        rows = tokens(text="a := 1")
        self.assertIs(type(rows), tuple)
        self.assertEqual([type(row) for row in rows], [tuple, tuple, tuple])


if __name__ == "__main__":
    unittest.main()
