"""Trees and beginnings (section 4)."""

import unittest

from begunended.errors import BadSyntax, BadToken
from begunended.trees import beginning, tree
from tests.common import Refusing

X, Y, ONE, TWO = ("name", "x"), ("name", "y"), ("number", 1), ("number", 2)
EMPTY = ("empty",)
BODY = ((), (), (), (), (), (EMPTY,))
STARTS = ("(", "+", "-", "[", "name", "nil", "not", "number", "string")
STATEMENTS = ("begin", "case", "for", "goto", "if", "name", "repeat", "while", "with")


def block(text):
    return tree("program p; " + text + ".")[3]


def statements(text):
    return block("begin " + text + " end")[5]


def statement(text):
    return statements(text)[0]


def expression(text):
    return statement("x := " + text)[2]


def kind(text):
    return block("var x: " + text + "; begin end")[3][0][1]


def heading(text):
    return block(text + "; forward; begin end")[4][0][:4]


class TextsTest(unittest.TestCase):
    def test_the_documents_example(self):
        self.assertEqual(tree("program p; var a: integer; begin a := -a * 2 + 1 end.")[3][5], (
            ("put", ("name", "a"), ("+", ("minus", ("*", ("name", "a"), ("number", 2))), ("number", 1))),))

    def test_texts(self):
        self.assertEqual(tree("program p; begin end."), ("program", "p", (), BODY))
        self.assertEqual(tree("PROGRAM P(A); BEGIN END."), ("program", "p", ("a",), BODY))
        self.assertEqual(tree("program p(a, b, c); begin end. {x}"), ("program", "p", ("a", "b", "c"), BODY))
        self.assertEqual(tree("program forward(forward); begin end."), ("program", "forward", ("forward",), BODY))

    def test_blocks(self):
        self.assertEqual(block("label 1; begin end")[0], (1,))
        self.assertEqual(block("label 1, 0002, 3; begin end")[0], (1, 2, 3))
        self.assertEqual(block("const x = 1; begin end")[1], (("x", ONE),))
        self.assertEqual(block("const x = 1; y = x; begin end")[1], (("x", ONE), ("y", X)))
        self.assertEqual(block("type x = y; begin end")[2], (("x", Y),))
        self.assertEqual(block("type x = y; y = x; begin end")[2], (("x", Y), ("y", X)))
        self.assertEqual(block("var x: y; begin end")[3], ((("x",), Y),))
        self.assertEqual(block("var x, y: y; z: x; begin end")[3], ((("x", "y"), Y), (("z",), X)))
        whole = block("label 1; const x = 1; type x = y; var x: y; procedure x; forward; begin x end")
        self.assertEqual(whole, (
            (1,), (("x", ONE),), (("x", Y),), ((("x",), Y),), (("procedure", "x", (), None, "forward"),),
            (("call", "x", ()),)))

    def test_routines(self):
        self.assertEqual(block("procedure x; begin end; begin end")[4], (("procedure", "x", (), None, BODY),))
        self.assertEqual(block("function x; begin end; begin end")[4], (("function", "x", (), None, BODY),))
        self.assertEqual(block("function x: y; begin end; begin end")[4], (("function", "x", (), "y", BODY),))
        both = block("procedure x; forward; procedure x; begin end; begin end")[4]
        self.assertEqual(both, (("procedure", "x", (), None, "forward"), ("procedure", "x", (), None, BODY)))
        inner = block("procedure x; function y: x; begin end; begin end; begin end")[4][0][4]
        self.assertEqual(inner[4], (("function", "y", (), "x", BODY),))
        self.assertEqual(block("procedure forward; forward; begin end")[4][0], (
            "procedure", "forward", (), None, "forward"))

    def test_parameters(self):
        self.assertEqual(heading("procedure p(x: y)"), ("procedure", "p", (("value", ("x",), "y"),), None))
        self.assertEqual(heading("procedure p(x, y: z; var x, y: z)")[2], (
            ("value", ("x", "y"), "z"), ("var", ("x", "y"), "z")))
        self.assertEqual(heading("function f(procedure x): y"), (
            "function", "f", (("procedure", "x", (), None),), "y"))
        self.assertEqual(heading("function f(function x: y): z"), (
            "function", "f", (("function", "x", (), "y"),), "z"))
        self.assertEqual(heading("procedure p(procedure x(var y: z); function f(procedure q): r)")[2], (
            ("procedure", "x", (("var", ("y",), "z"),), None),
            ("function", "f", (("procedure", "q", (), None),), "r")))

    def test_constants(self):
        rows = {
            "1": ONE, "x": X, "'a'": ("string", "a"), "'it''s'": ("string", "it's"), "+1": ("plus", ONE),
            "-1": ("minus", ONE), "+x": ("plus", X), "-x": ("minus", X)}
        for text, told in rows.items():
            self.assertEqual(block("const x = " + text + "; begin end")[1], (("x", told),))

    def test_kinds(self):
        rows = {
            "x": X, "(x)": ("told", ("x",)), "(x, y, z)": ("told", ("x", "y", "z")), "1..2": ("from", ONE, TWO),
            "x..y": ("from", X, Y), "-1..+x": ("from", ("minus", ONE), ("plus", X)),
            "+1..2": ("from", ("plus", ONE), TWO),
            "'a'..'b'": ("from", ("string", "a"), ("string", "b")), "x..1": ("from", X, ONE),
            "array [x] of y": ("array", False, (X,), Y), "packed array [x] of y": ("array", True, (X,), Y),
            "array [x, 1..2, (y)] of array [y] of x": (
                "array", False, (X, ("from", ONE, TWO), ("told", ("y",))), ("array", False, (Y,), X)),
            "set of x": ("set", X), "file of x": ("file", X), "^x": ("pointer", "x"),
            "set of 1..2": ("set", ("from", ONE, TWO)), "file of set of ^x": ("file", ("set", ("pointer", "x")))}
        for text, told in rows.items():
            self.assertEqual(kind(text), told, text)
        for text in ("packed array [x] of y", "array [x] of y", "packed record end", "record end"):
            self.assertIs(type(kind(text)[1]), bool)

    def test_records(self):
        row = (("x",), Y)
        rows = {
            "record end": ((), None), "record x: y end": ((row,), None), "record x: y; end": ((row,), None),
            "record x, y: y; x: y end": (((("x", "y"), Y), row), None),
            "record case x of 1: () end": ((), (None, "x", (((ONE,), (), None),))),
            "record case x: y of 1: () end": ((), ("x", "y", (((ONE,), (), None),))),
            "record case x of 1: (); end": ((), (None, "x", (((ONE,), (), None),))),
            "record x: y; case x of 1, 2: (x: y); y: (x: y;) end": ((row,), (
                None, "x", (((ONE, TWO), (row,), None), ((Y,), (row,), None)))),
            "record x: y; case x of -1: (case y of 1: ()); 'a': (x: y; case x of 1: ();); end": ((row,), (None, "x", (
                ((("minus", ONE),), (), (None, "y", (((ONE,), (), None),))),
                ((("string", "a"),), (row,), (None, "x", (((ONE,), (), None),))))))}
        for text, (fields, variant) in rows.items():
            self.assertEqual(kind(text), ("record", False, fields, variant), text)
            self.assertEqual(kind("packed " + text), ("record", True, fields, variant), text)


class StatementsTest(unittest.TestCase):
    def test_statements(self):
        self.assertEqual(statements(""), (EMPTY,))
        self.assertEqual(statements(";;"), (EMPTY, EMPTY, EMPTY))
        self.assertEqual(statements("x; 1: ; 2: x"), (
            ("call", "x", ()), ("label", 1, EMPTY), ("label", 2, ("call", "x", ()))))

    def test_plain_ones(self):
        rows = {
            "x := y": ("put", X, Y), "x^ := y": ("put", ("aim", X), Y), "x": ("call", "x", ()),
            "x(1)": ("call", "x", (ONE,)), "x(1, y)": ("call", "x", (ONE, Y)), "goto 7": ("goto", 7),
            "x(1: y, 2, x: 1)": ("call", "x", (("width", ONE, Y), TWO, ("width", X, ONE))),
            "begin end": ("begin", (EMPTY,)), "begin x; y end": ("begin", (("call", "x", ()), ("call", "y", ()))),
            "if x then": ("if", X, EMPTY, None), "if x then else": ("if", X, EMPTY, EMPTY),
            "if x then y else goto 1": ("if", X, ("call", "y", ()), ("goto", 1)),
            "if x then 1: y else 2: y": (
                "if", X, ("label", 1, ("call", "y", ())), ("label", 2, ("call", "y", ()))),
            "while x do": ("while", X, EMPTY), "while x do x": ("while", X, ("call", "x", ())),
            "repeat until x": ("repeat", (EMPTY,), X),
            "repeat x; y; until x": ("repeat", (("call", "x", ()), ("call", "y", ()), EMPTY), X),
            "for x := 1 to y do": ("for", "x", ONE, "to", Y, EMPTY),
            "for x := 1 downto y do x": ("for", "x", ONE, "downto", Y, ("call", "x", ())),
            "case x of 1: end": ("case", X, (((ONE,), EMPTY),)),
            "case x of 1: ; end": ("case", X, (((ONE,), EMPTY),)),
            "case x of 1, -y: x; 'a': 2: y; end": ("case", X, (
                ((ONE, ("minus", Y)), ("call", "x", ())), ((("string", "a"),), ("label", 2, ("call", "y", ()))))),
            "with x do": ("with", (X,), EMPTY),
            "with x, y^ do x": ("with", (X, ("aim", Y)), ("call", "x", ()))}
        for text, told in rows.items():
            self.assertEqual(statements(text), (told,), text)

    def test_the_nearest_if_has_the_else(self):
        call = ("call", "x", ())
        self.assertEqual(statement("if x then if y then x else x"), ("if", X, ("if", Y, call, call), None))
        self.assertEqual(
            statement("if x then if y then x else x else x"), ("if", X, ("if", Y, call, call), call))
        self.assertEqual(
            statement("if x then while x do if y then x else x"),
            ("if", X, ("while", X, ("if", Y, call, call)), None))
        self.assertEqual(
            statement("if x then begin if y then x end else x"),
            ("if", X, ("begin", (("if", Y, call, None),)), call))
        self.assertEqual(
            statement("if x then if y then if x then x else else x"),
            ("if", X, ("if", Y, ("if", X, call, EMPTY), call), None))

    def test_variables(self):
        rows = {
            "x": X, "x[1]": ("index", X, ONE), "x.y": ("field", X, "y"), "x^": ("aim", X),
            "x[1, y]": ("index", ("index", X, ONE), Y), "x[1][y]": ("index", ("index", X, ONE), Y),
            "x[1, 2][y, x].y^^[x[1]]": (
                "index", ("aim", ("aim", ("field", (
                    "index", ("index", ("index", ("index", X, ONE), TWO), Y), X), "y"))), ("index", X, ONE))}
        for text, told in rows.items():
            self.assertEqual(statement(text + " := 1"), ("put", told, ONE))
            self.assertEqual(expression(text), told)
            self.assertEqual(statement("with y, " + text + " do")[1], (Y, told))


class ExpressionsTest(unittest.TestCase):
    def test_factors(self):
        rows = {
            "1": ONE, "'a'": ("string", "a"), "nil": ("nil",), "x(1)": ("call", "x", (ONE,)),
            "x(1, y, nil)": ("call", "x", (ONE, Y, ("nil",))), "[]": ("set", ()), "[1]": ("set", (ONE,)),
            "[1, x..y, 2]": ("set", (ONE, ("to", X, Y), TWO)), "(x)": X, "((x))": X, "not x": ("not", X),
            "not not x": ("not", ("not", X)), "'('": ("string", "("), "'nil'": ("string", "nil")}
        for text, told in rows.items():
            self.assertEqual(expression(text), told)

    def test_terms_and_sums(self):
        for sign in ("*", "div", "mod", "and"):
            self.assertEqual(expression("x " + sign + " y"), (sign, X, Y))
            self.assertEqual(expression("x " + sign + " y * 1"), ("*", (sign, X, Y), ONE))
            self.assertEqual(expression("x " + sign + " (y * 1)"), (sign, X, ("*", Y, ONE)))
            self.assertEqual(expression("not x " + sign + " not y"), (sign, ("not", X), ("not", Y)))
        for sign in ("+", "-", "or"):
            self.assertEqual(expression("x " + sign + " y"), (sign, X, Y))
            self.assertEqual(expression("x " + sign + " y + 1"), ("+", (sign, X, Y), ONE))
            self.assertEqual(expression("x * y " + sign + " y * x"), (sign, ("*", X, Y), ("*", Y, X)))
            self.assertEqual(expression("-x " + sign + " y"), (sign, ("minus", X), Y))
        self.assertEqual(expression("+x"), ("plus", X))
        self.assertEqual(expression("-x * y"), ("minus", ("*", X, Y)))
        self.assertEqual(expression("(-x) * y"), ("*", ("minus", X), Y))
        self.assertEqual(expression("-(-x)"), ("minus", ("minus", X)))

    def test_comparisons(self):
        for sign in ("=", "<>", "<", ">", "<=", ">=", "in"):
            self.assertEqual(expression("x " + sign + " y"), (sign, X, Y))
            self.assertEqual(expression("-x + y " + sign + " +y"), (sign, ("+", ("minus", X), Y), ("plus", Y)))
            self.assertEqual(expression("(x " + sign + " y) = 1"), ("=", (sign, X, Y), ONE))
            self.assertEqual(expression("not x " + sign + " y"), (sign, ("not", X), Y))


class BadSyntaxTest(Refusing, unittest.TestCase):
    def bad(self, text, place, could):
        value = (*place, tuple(sorted(could)))
        self.refused(BadSyntax, value, tree, text)
        self.refused(BadSyntax, value, beginning, text)

    def test_places_and_what_could_stand(self):
        rows = [
            ("x", (1, 1), ["program"]), ("program 1", (1, 9), ["name"]), ("program p begin", (1, 11), ["(", ";"]),
            ("program p()", (1, 11), ["name"]), ("program p(a;", (1, 12), [")", ","]),
            ("program p; x", (1, 12), ["begin", "const", "function", "label", "procedure", "type", "var"]),
            ("program p; label 1; label", (1, 21), ["begin", "const", "function", "procedure", "type", "var"]),
            ("program p; const a = 1; 2", (1, 25), ["begin", "function", "name", "procedure", "type", "var"]),
            ("program p; type a = b; const", (1, 24), ["begin", "function", "name", "procedure", "var"]),
            ("program p; var a: b; type", (1, 22), ["begin", "function", "name", "procedure"]),
            ("program p; procedure q; begin end; var", (1, 36), ["begin", "function", "procedure"]),
            ("program p;\nprocedure q; x", (2, 14), [
                "begin", "const", "forward", "function", "label", "procedure", "type", "var"]),
            ("program p; procedure q: x", (1, 23), ["(", ";"]), ("program p; function q = x", (1, 23), ["(", ":", ";"]),
            ("program p; procedure q(1", (1, 24), ["function", "name", "procedure", "var"]),
            ("program p; procedure q(function f;", (1, 34), ["(", ":"]),
            ("program p; procedure q(procedure f:", (1, 35), ["(", ")", ";"]),
            ("program p; const a = -'x'", (1, 23), ["name", "number"]),
            ("program p; const a = nil", (1, 22), ["+", "-", "name", "number", "string"]),
            ("program p; type a = nil", (1, 21), [
                "(", "+", "-", "^", "array", "file", "name", "number", "packed", "record", "set", "string"]),
            ("program p; type a = b]", (1, 22), ["..", ";"]), ("program p; type a = packed set", (1, 28), [
                "array", "record"]),
            ("program p; type a = record ;", (1, 28), ["case", "end", "name"]),
            ("program p; type a = record b: c; ;", (1, 34), ["case", "end", "name"]),
            ("program p; type a = record b: c ]", (1, 33), ["..", ";", "end"]),
            ("program p; type a = record case b ]", (1, 35), [":", "of"]),
            ("program p; type a = record case b of 1: (); ;", (1, 45), ["+", "-", "end", "name", "number", "string"]),
            ("program p; type a = record case b of 1: (;", (1, 42), [")", "case", "name"]),
            ("program p; begin end;", (1, 21), ["."]), ("program p; begin end. x", (1, 23), ["(end)"]),
            ("program p; begin end..", (1, 21), ["."]), ("program p; begin end.\n.", (2, 1), ["(end)"])]
        for text, place, could in rows:
            self.bad(text, place, could)

    def test_statements_and_expressions(self):
        head = "program p; begin "
        behind = [")", "*", "+", "-", "<", "<=", "<>", "=", ">", ">=", "and", "div", "in", "mod", "or"]
        ways = [".", "[", "^"]
        rows = [
            ("else", 0, [*STATEMENTS, "number", ";", "end"]), ("1 x", 2, [":"]),
            ("1: 2", 3, [*STATEMENTS, ";", "end"]), ("x 1", 2, ["(", ".", ":=", ";", "[", "^", "end"]),
            ("x^ ;", 3, [".", ":=", "[", "^"]), ("x. 1", 3, ["name"]), ("x()", 2, STARTS),
            ("x := ;", 5, STARTS), ("x := y 1", 7, [*behind[1:], *ways, "(", ";", "end"]),
            ("x := (1]", 7, behind), ("x := y(1: 2)", 8, [*behind, ","]),
            ("x := y(1)^", 9, [*behind[1:], ";", "end"]), ("x := 1 = 2 = 3", 11, [
                "*", "+", "-", ";", "and", "div", "end", "mod", "or"]),
            ("x := - - 1", 7, [name for name in STARTS if name not in "+-"]),
            ("x := 1 * - 1", 9, [name for name in STARTS if name not in "+-"]),
            ("x := 1 + - 1", 9, [name for name in STARTS if name not in "+-"]),
            ("x := [1 :", 8, [*behind[1:], ",", "..", "]"]), ("x := [,", 6, [*STARTS, "]"]),
            ("x(1..", 3, [*behind, ",", ":"]), ("goto x", 5, ["number"]),
            ("if x do", 5, [*behind[1:], *ways, "(", "then"]),
            ("if x then y until", 12, ["(", ".", ":=", ";", "[", "^", "else", "end"]),
            ("if x then 1 : else 2 end else", 21, [":"]), ("if x then ; else", 12, [*STATEMENTS, "number", ";", "end"]),
            ("while x then", 8, [*behind[1:], *ways, "(", "do"]), ("repeat end", 7, [
                *STATEMENTS, "number", ";", "until"]),
            ("for 1", 4, ["name"]), ("for x = 1", 6, [":="]), ("for x := 1 do", 11, [*behind[1:], "downto", "to"]),
            ("case x of end", 10, ["+", "-", "name", "number", "string"]),
            ("case x of 1: ; ;", 15, ["+", "-", "end", "name", "number", "string"]),
            ("case x of 1 2", 12, [",", ":"]), ("with 1", 5, ["name"]), ("with x, y(", 9, [",", *ways, "do"])]
        for text, offset, could in rows:
            self.bad(head + text, (1, len(head) + offset + 1), could)

    def test_behind_the_end(self):
        could = ["(", ";"]
        for text, place in (
                ("program p", (1, 10)), ("program p ", (1, 11)), ("program p\n", (2, 1)), ("program p\n\n  ", (3, 3)),
                ("program p {x\ny}", (2, 3))):
            self.refused(BadSyntax, (*place, tuple(could)), tree, text)
        self.refused(BadSyntax, (1, 1, ("program",)), tree, "")
        self.refused(BadSyntax, (1, 21, (".",)), tree, "program p; begin end")
        self.refused(BadSyntax, (1, 24, (
            "begin", "const", "forward", "function", "label", "procedure", "type", "var")),
            tree, "program p; procedure q;")

    def test_forward_is_no_name_as_a_body(self):
        could = ("begin", "const", "forward", "function", "label", "procedure", "type", "var")
        self.refused(BadSyntax, (1, 25, could), tree, "program p; procedure q; forwards; begin end.")
        self.assertEqual(tree("program p; procedure q; FORWARD; begin forward end.")[3][4][0][4], "forward")

    def test_bad_tokens_come_first(self):
        self.refused(BadToken, (1, 9), tree, "x x x x !")
        self.refused(BadToken, (1, 9), beginning, "x x x x !")
        for value in (None, True, 5, ("program",), []):
            self.refused(BadToken, (0, 0), tree, value)
            self.refused(BadToken, (0, 0), beginning, value)


class BeginningTest(Refusing, unittest.TestCase):
    def test_the_documents_examples(self):
        self.assertEqual([beginning("program p; begin end"), beginning("program")], [((".", 1),), (("name", 5),)])

    def test_beginnings(self):
        rows = {
            "": (("program", 6),), "program p; begin end.": (("(end)", 0),), "program p": (("(", 7), (";", 4)),
            "program p;": (
                ("begin", 3), ("const", 8), ("function", 8), ("label", 6), ("procedure", 8), ("type", 8), ("var", 8)),
            "program p; procedure q;": (
                ("begin", 6), ("const", 11), ("forward", 5), ("function", 11), ("label", 9), ("procedure", 11),
                ("type", 11), ("var", 11)),
            "program p; type a = record": (("case", 12), ("end", 5), ("name", 8)),
            "program p; begin if x then": (
                (";", 3), ("begin", 4), ("case", 8), ("else", 3), ("end", 2), ("for", 9), ("goto", 4), ("if", 5),
                ("name", 3), ("number", 4), ("repeat", 5), ("while", 5), ("with", 5)),
            "program p; begin x := [": (
                ("(", 6), ("+", 5), ("-", 5), ("[", 5), ("]", 3), ("name", 4), ("nil", 4), ("not", 5), ("number", 4),
                ("string", 4))}
        for text, told in rows.items():
            self.assertEqual(beginning(text), told, text)

    def test_any_names_numbers_and_strings_count(self):
        self.assertEqual(beginning("program p; begin goto 99999; nothing('x', 5)"), ((";", 3), ("end", 2)))

    def test_bad_syntax_alike(self):
        self.refused(BadSyntax, (1, 9, ("name",)), beginning, "program 5")
        self.refused(BadSyntax, (1, 22, ("(end)",)), beginning, "program p; begin end.5")


if __name__ == "__main__":
    unittest.main()
