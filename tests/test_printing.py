"""Printing (section 5)."""

import unittest

from begunended.errors import BadValue
from begunended.heap import Heap
from begunended.printing import needed_brackets, printed
from begunended.program import Program
from begunended.trees import tree
from tests.common import Refusing

HEAD = "program p ; begin "
EMPTY = ("empty",)


def shortest(text):
    return printed(tree("program p; begin " + text + " end."))[len(HEAD):-len(" end .")]


def shortest_expression(text):
    return shortest("x := " + text)[len("x := "):]


def of_statement(statement):
    return ("program", "p", (), ((), (), (), (), (), (statement,)))


def of_expression(expression):
    return of_statement(("put", ("name", "x"), expression))


def of_kind(kind):
    return ("program", "p", (), ((), (), (), ((("x",), kind),), (), (EMPTY,)))


def of_constant(constant):
    return ("program", "p", (), ((), (("x", constant),), (), (), (), (EMPTY,)))


class PrintedTest(unittest.TestCase):
    def test_the_documents_example(self):
        self.assertEqual(
            printed(tree("program p ; begin a := ((a)) * (b + 1) ; end .")),
            "program p ; begin a := a * ( b + 1 ) ; end .")

    def test_spelling(self):
        text = "PROGRAM P(A,b);{x}LABEL 007;CONST C=-00;Var D:Integer;Begin 7:\n\nA:='It''s' END."
        self.assertEqual(
            printed(tree(text)),
            "program p ( a , b ) ; label 7 ; const c = - 0 ; var d : integer ; begin 7 : a := 'It''s' end .")

    def test_tokens_that_can_be_left_out(self):
        rows = {
            "case x of 1: y; end": "case x of 1 : y end", "case x of 1: ; end": "case x of 1 : end",
            "x[1][2] := 3": "x [ 1 , 2 ] := 3", "x[1, 2] := 3": "x [ 1 , 2 ] := 3",
            "x[1][2].y[3][4, 5] := 3": "x [ 1 , 2 ] . y [ 3 , 4 , 5 ] := 3",
            "x[1]^[2] := 3": "x [ 1 ] ^ [ 2 ] := 3", "begin x; end": "begin x ; end", "": "", ";": ";"}
        for text, short in rows.items():
            self.assertEqual(shortest(text), short)
        kinds = {
            "record x: y; end": "record x : y end",
            "record case x of 1: (); end": "record case x of 1 : ( ) end",
            "record x: y; case x of 1: (y: z;); end": "record x : y ; case x of 1 : ( y : z ) end",
            "array [x, y] of array [z] of x": "array [ x , y ] of array [ z ] of x"}
        for text, short in kinds.items():
            whole = printed(tree("program p; var x: " + text + "; begin end."))
            self.assertEqual(whole, "program p ; var x : " + short + " ; begin end .")

    def test_brackets_that_are_not_needed(self):
        rows = {
            "((x))": "x", "(x + y) + z": "x + y + z", "(x * y) + z": "x * y + z", "x + (y * z)": "x + y * z",
            "(-x) + y": "- x + y", "-(x * y)": "- x * y", "(x + y) = (y - z)": "x + y = y - z",
            "(-x) = (+y)": "- x = + y", "(x div y) mod z": "x div y mod z", "not (not x)": "not not x",
            "not (x)": "not x", "(not x) * (y[(z)])": "not x * y [ z ]", "f((x), (y = z))": "f ( x , y = z )",
            "[(x)..(y + z), (x = y)]": "[ x .. y + z , x = y ]", "(nil)": "nil", "('a')": "'a'", "(1) + (2)": "1 + 2",
            "(f(x))": "f ( x )", "(x^)": "x ^", "([])": "[ ]", "(x - y) - z": "x - y - z",
            "(x or y) or z": "x or y or z", "(x and y) and z": "x and y and z"}
        for text, short in rows.items():
            self.assertEqual(shortest_expression(text), short)

    def test_brackets_that_are_needed_at_each_level(self):
        rows = (
            "x * ( y + z )", "( x + y ) * z", "x - ( y - z )", "x + ( y + z )", "x * ( y * z )", "x div ( y div z )",
            "- ( x + y )", "- ( - x )", "x + ( - y )", "( - x ) * y", "x * ( - y )", "not ( x and y )",
            "not ( x = y )", "not ( - x )", "( x = y ) = z", "x = ( y = z )", "( x = y ) + z", "x and ( y = z )",
            "- ( x = y )", "( x in y ) in z", "x or ( y or z )", "x mod ( y + z )", "- ( - ( - x ) )")
        for text in rows:
            self.assertEqual(shortest_expression(text), text)
            self.assertEqual(len(needed_brackets(tree("program p; begin x := " + text + " end."))), text.count("("))

    def test_brackets_in_all_places(self):
        rows = {
            "if ( x = y ) = z then": 1, "while - ( - x ) do": 1, "repeat until x * ( y + z )": 1,
            "for x := - ( - y ) to x * ( y + z ) do": 2, "case - ( - x ) of 1 : end": 1,
            "p ( - ( - x ) : - ( - y ) )": 2, "x [ - ( - x ) ] := - ( - x )": 2, "with x [ - ( - x ) ] do": 1,
            "1 : x := - ( - x )": 1, "begin x := [ - ( - x ) .. - ( - x ) ] end": 2,
            "if x then else x := f ( - ( - x ) )": 1}
        for text, many in rows.items():
            self.assertEqual(shortest(text), text)
            self.assertEqual(len(needed_brackets(tree("program p; begin " + text + " end."))), many)


class NeededBracketsTest(unittest.TestCase):
    def test_the_documents_example(self):
        told = needed_brackets(tree("program p ; begin a := a - (b - 1) end ."))
        self.assertEqual([row[:2] for row in told], [(8, 12)])
        self.assertEqual(told[0][2], tree("program p; begin a := a - b - 1 end."))

    def test_none(self):
        for text in ("x", "f ( x )", "f ( x , y )", "[ x ]", "((x))", "(x + y) + z"):
            self.assertEqual(needed_brackets(tree("program p(q); begin x := " + text + " end.")), ())
        self.assertEqual(needed_brackets(tree(
            "program p(q); type t = (r, s); procedure o(x: t); begin end; begin o(1); o(2: 3) end.")), ())

    def test_other_trees_and_none(self):
        head = "program p; begin x := "
        for text, others in (
                ("(a + b) * c", [((6, 10), "a + b * c")]), ("a * (b * c)", [((8, 12), "a * b * c")]),
                ("(a = b) = c", [((6, 10), None)]), ("-(-a)", [((7, 10), None)]), ("not (a = b)", [((7, 11), "not a = b")]),
                ("a + (-b)", [((8, 11), None)]), ("(-a) * b", [((6, 9), "- a * b")]),
                ("(a + b) * (c - d)", [((6, 10), "a + b * (c - d)"), ((12, 16), "(a + b) * c - d")]),
                ("-(-(-a))", [((7, 13), None), ((9, 12), None)]),
                ("a - (b - (c - d))", [((8, 16), "a - b - (c - d)"), ((11, 15), "a - (b - c - d)")]),
                ("not (f(a) and b)", [((7, 14), "not f(a) and b")])):
            told = needed_brackets(tree(head + text + " end."))
            wanted = tuple([(*place, None if other is None else tree(head + other + " end.")) for place, other in others])
            self.assertEqual(told, wanted, text)

    def test_a_tuple_of_tuples(self):
        told = needed_brackets(tree=tree("program p; begin x := -(-a) end."))
        self.assertIs(type(told), tuple)
        self.assertIs(type(told[0]), tuple)


class BadValueTest(Refusing, unittest.TestCase):
    def bad(self, value):
        for function in (printed, needed_brackets):
            with self.assertRaises(BadValue) as caught:
                function(value)
            self.assertIs(caught.exception.value, value)

    def test_what_is_no_tree_at_all(self):
        whole = tree("program p; begin end.")
        for value in (
                None, True, 0, "program p ; begin end .", (), [], {}, ("program",), ("program", "p", ()), whole[3],
                list(whole), [whole], (whole,), whole + ((),), Heap(1), Program("program p; begin end."), EMPTY,
                ("text", *whole[1:]), {"program": "p"}, (1, 2, 3, 4), ([], "p", (), whole[3])):
            self.bad(value)

    def test_lists_in_the_place_of_tuples(self):
        for text in (
                "program p(q); label 1; const c = 1; type t = (r, s); var x: t; procedure o; forward;"
                " begin x := [1, 2..3]; with x, y do o(1, 2: 3); case x of 1, 2: end; begin end; repeat until f(1) end.",
                "program p; type t = packed array [x, y] of record x: y; case a: b of 1: (x: y) end;"
                " procedure o(x, y: z; var x: y; function q(procedure r): z); begin end; begin end."):
            told = tree(text)
            found = list(with_one_list(told))
            self.assertGreater(len(found), 40)
            for other in found:
                self.bad(other)

    def test_bools_in_the_place_of_integers_and_the_other_way_round(self):
        for value in (
                of_statement(("goto", True)), of_statement(("label", True, EMPTY)), of_expression(("number", True)),
                of_expression(("number", False)), of_constant(("number", True)),
                ("program", "p", (), ((True,), (), (), (), (), (EMPTY,))),
                of_kind(("array", 1, (("name", "x"),), ("name", "x"))), of_kind(("record", 0, (), None)),
                of_kind(("record", None, (), None)), of_kind(("record", (), (), None))):
            self.bad(value)

    def test_numbers_and_strings_of_no_token(self):
        for value in (
                of_expression(("number", -1)), of_expression(("number", 2147483648)), of_expression(("number", "1")),
                of_expression(("number", None)), of_expression(("string", "")), of_expression(("string", "a\nb")),
                of_expression(("string", 1)), of_expression(("string", ("a",))), of_statement(("goto", "1"))):
            self.bad(value)
        for value in (of_expression(("number", 2147483647)), of_expression(("string", "{'(*"))):
            self.assertEqual(tree(printed(value)), value)

    def test_words_and_others_in_the_place_of_names(self):
        for name in (
                "begin", "end", "X", "xY", "", " ", "1", "x y", "x{}", "x ", "x.y", "x^", None, 5, True, ("x",), ["x"],
                "x:=y", "'x'", "nil"):
            self.bad(of_expression(("name", name)))
            self.bad(of_expression(("field", ("name", "x"), name)))
            self.bad(of_statement(("call", name, ())))
            self.bad(of_kind(("pointer", name)))
            self.bad(("program", name, (), ((), (), (), (), (), (EMPTY,))))
            self.bad(("program", "p", (name,), ((), (), (), (), (), (EMPTY,))))
        self.assertEqual(tree(printed(of_expression(("name", "forward")))), of_expression(("name", "forward")))

    def test_forms_that_no_text_has(self):
        x = ("name", "x")
        for value in (
                of_expression(("call", "f", ())), of_expression(("width", x, x)), of_expression(("to", x, x)),
                of_expression(("call", "f", (("width", x, x),))), of_expression(("set", (("width", x, x),))),
                of_expression(("+", x)), of_expression(("+", x, x, x)), of_expression(("nil", x)), of_expression(x + (1,)),
                of_expression(("not",)), of_expression(("index", ("number", 1), x)), of_expression(("aim", ("set", ()))),
                of_expression(("field", x)), of_expression(("aim", x, x)), of_expression(("index", x)),
                of_expression(EMPTY), of_statement(x), of_statement(("begin", ())), of_statement(("with", (), EMPTY)),
                of_statement(("case", x, ())), of_statement(("case", x, (((), EMPTY),))), of_statement(("repeat", (), x)),
                of_statement(("for", "x", x, "upto", x, EMPTY)), of_statement(("label", 1, ("label", 2, EMPTY))),
                of_statement(("put", ("number", 1), x)), of_statement(("put", ("call", "x", ()), x)),
                of_statement(("if", x, EMPTY)), of_statement(("empty", ())), of_statement(("begin", (EMPTY, None))),
                of_kind(("told", ())), of_kind(("from", x, ("plus", ("string", "a")))), of_kind(("set", x, x)),
                of_kind(("array", False, (), x)), of_kind(("array", False, x, x)), of_kind(("record", False, ((), x), None)),
                of_kind(("record", False, (), (None, "x", ()))), of_kind(("plus", ("number", 1))), of_kind(("number", 1)),
                of_constant(("minus", ("minus", ("number", 1)))), of_constant(("nil",)), of_constant(("not", x)),
                ("program", "p", (), ((), (), (), (), (), ())), ("program", "p", None, ((), (), (), (), (), (EMPTY,))),
                ("program", "p", (), ((), (), (), (((), x),), (), (EMPTY,))),
                ("program", "p", (), ((), (), (), (), (("procedure", "q", (), "x", "forward"),), (EMPTY,))),
                ("program", "p", (), ((), (), (), (), (("procedure", "q", (), None, "forwards"),), (EMPTY,))),
                ("program", "p", (), ((), (), (), (), (("routine", "q", (), None, "forward"),), (EMPTY,))),
                ("program", "p", (), ((), (), (), (), (("procedure", "q", (("value", (), "x"),), None, "forward"),), (
                    EMPTY,))),
                ("program", "p", (), ((), (), (), (), (
                    ("procedure", "q", (("function", "x", (), None),), None, "forward"),), (EMPTY,)))):
            self.bad(value)

    def test_an_else_that_no_text_gives_to_the_outer_if(self):
        x = ("name", "x")
        inner = ("if", x, EMPTY, None)
        self.bad(of_statement(("if", x, inner, EMPTY)))
        self.bad(of_statement(("if", x, ("while", x, inner), EMPTY)))
        self.bad(of_statement(("if", x, ("label", 1, ("if", x, EMPTY, inner)), EMPTY)))
        value = of_statement(("if", x, ("begin", (inner,)), EMPTY))
        self.assertEqual(tree(printed(value)), value)


def with_one_list(told):
    """All values that have a list in the place of one tuple of this one."""
    yield list(told)
    for at, part in enumerate(told):
        if isinstance(part, tuple):
            for other in with_one_list(part):
                yield told[:at] + (other,) + told[at + 1:]


if __name__ == "__main__":
    unittest.main()
