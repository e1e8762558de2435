"""Running (section 8): what is shown, what is handed in, steps, stops."""

import unittest

from begunended.errors import BadFuel, BadInputs, BadNumber
from begunended.program import Program
from begunended.running import run, seen
from tests.common import Running

KINDS = (
    "type color = (red, green, blue); ptr = ^rec; rec = record k: color; case t: boolean of true: (a, b: integer);"
    " false: () end; free = record case integer of 1: (x: char; case y: color of red: (z: integer)); 2: (w: boolean) end;"
    " vec = array [1..2] of integer;")


def last_seen(text, inputs=()):
    """The names at the last step of a program."""
    program = Program(text)
    told = None
    for number in range(1, 200):
        stop = seen(program, inputs, number)
        if stop[0] != "stop":
            return dict(told[4])
        told = stop
    return None


def shown_at_end(kind, body="", kinds=KINDS):
    return last_seen("program p; " + kinds + " var v: " + kind + "; begin " + body + "; end.")["v"]


class ShownTest(unittest.TestCase):
    def test_each_kind(self):
        rows = (
            ("integer", "v := -5", -5), ("boolean", "v := true", True), ("boolean", "v := false", False),
            ("char", "v := 'x'", "x"), ("color", "v := blue", "blue"), ("red..green", "v := green", "green"),
            ("3..7", "v := 4", 4), ("'a'..'f'", "v := 'b'", "b"), ("false..true", "v := true", True),
            ("set of 0..9", "v := [5, 1..2]", (1, 2, 5)), ("set of 0..9", "v := []", ()), ("set of char", "v := ['a']", (97,)),
            ("set of color", "v := [blue]", (2,)), ("ptr", "v := nil", "nil"), ("ptr", "new(v)", "piece"),
            ("ptr", "new(v); dispose(v)", "piece"), ("vec", "v[2] := 3", (None, 3)), ("text", "", "file"),
            ("array [boolean] of vec", "v[true, 1] := 0", ((None, None), (0, None))),
            ("packed array [1..2] of char", "v := 'ab'", ("a", "b")), ("file of char", "rewrite(v)", "file"),
            ("integer", "", None), ("set of char", "", None), ("ptr", "", None), ("vec", "", (None, None)))
        for kind, body, told in rows:
            self.assertEqual(shown_at_end(kind, body), told, (kind, body))
            self.assertIs(type(shown_at_end(kind, body)), type(told))

    def test_records(self):
        self.assertEqual(shown_at_end("rec"), (None, None, None, ()))
        self.assertEqual(shown_at_end("rec", "v.k := red; v.t := true; v.b := 4"), ("red", True, 0, (None, 4)))
        self.assertEqual(shown_at_end("rec", "v.t := false"), (None, False, 1, ()))
        self.assertEqual(shown_at_end("free"), (None, ()))
        self.assertEqual(shown_at_end("free", "v.w := true"), (1, (True,)))
        self.assertEqual(shown_at_end("free", "v.x := 'a'"), (0, ("a", None, None, ())))
        self.assertEqual(shown_at_end("free", "v.y := red"), (0, (None, "red", 0, (None,))))
        self.assertEqual(shown_at_end("free", "v.y := green"), (0, (None, "green", 1, ())))
        self.assertEqual(shown_at_end("record x, y: char end", "v.y := 'k'"), (None, "k"))
        self.assertEqual(shown_at_end("record case k: integer of 1: (x: char) end", "v.k := 5"), (5, 1, ()))
        kind = "record x: char; y: array [1..4] of integer; z: array [1..3] of free end"
        body = "v.y[1] := 1; v.y[3] := 3; v.z[1].w := true; v.z[2].x := 'a'; v.z[3].y := red"
        arms = ((1, (True,)), (0, ("a", None, None, ())), (0, (None, "red", 0, (None,))))
        self.assertEqual(shown_at_end(kind, body), (None, (1, None, 3, None), arms))

    def test_parameters_and_results(self):
        text = (
            "program p(output); " + KINDS + " var n: integer; procedure z; begin end;"
            " function f(a: integer; var b: integer; c: vec; procedure d; function e: integer; var g: text): integer;"
            " var h: char; begin f := 5; end; begin end.")
        text = text.replace("var n: integer;", "var n: integer; x: vec; function one: integer; begin one := 1 end;")
        program = Program(text.replace("; begin end.", "; begin n := 8; x[1] := 3; n := f(2, n, x, z, one, output) end."))
        rows = [seen(program, (), number) for number in range(1, 9)]
        inner = [row for row in rows if row[0] == "stop" and row[3] == ("p", "f")]
        self.assertEqual(len(inner), 3)
        names = (("a", 2), ("b", 8), ("c", (3, None)), ("d", "routine"), ("e", "routine"), ("f", None), ("g", "file"), ("h", None))
        self.assertEqual(inner[0][4], names)
        self.assertEqual(dict(inner[2][4])["f"], 5)

    def test_a_result_that_is_hidden(self):
        for told in ("(f: char): integer; begin g end;", ": integer; var f: char; begin f := 'a'; g end;"):
            text = "program p; procedure g; begin end; function f" + told + " begin end."
            call = "f('a')" if told.startswith("(f") else "f"
            text = text[:-len("begin end.")] + "procedure q; var n: integer; begin n := " + call + " end; begin q end."
            program = Program(text)
            rows = [seen(program, (), number) for number in range(1, 12)]
            found = [dict(row[4])["f"] for row in rows if row[0] == "stop" and row[3][-1] == "f"]
            self.assertEqual(found[-1], "a")

    def test_what_a_var_parameter_holds(self):
        kinds = KINDS + (
            " var p: ptr; l: free; f: file of integer; n: integer; procedure q(var x: integer; k: integer);"
            " begin if k = 1 then dispose(p); if k = 2 then l.w := true; end; procedure c(var y: char); begin l.w := true; end;")
        text = "program p1; " + kinds + " begin {} end."

        def last_of(body):
            program = Program(text.format(body))
            found = None
            for number in range(1, 60):
                stop = seen(program, (), number)
                if stop[0] == "stop" and stop[3][-1] in ("q", "c"):
                    found = dict(stop[4])
            return found

        self.assertEqual(last_of("new(p); p^.t := true; p^.a := 4; q(p^.a, 0)")["x"], 4)
        self.assertEqual(last_of("new(p); p^.t := true; q(p^.a, 0)")["x"], None)
        self.assertEqual(last_of("new(p); p^.t := true; p^.a := 4; q(p^.a, 1)")["x"], "gone")
        self.assertEqual(last_of("l.y := red; l.z := 1; q(l.z, 0)")["x"], 1)
        self.assertEqual(last_of("l.y := red; l.z := 1; q(l.z, 2)")["x"], "arm")
        self.assertEqual(last_of("l.x := 'k'; c(l.x)")["y"], "arm")
        self.assertEqual(last_of("rewrite(f); q(f^, 0)")["x"], "window")
        self.assertEqual(last_of("q(f^, 0)")["x"], "window")


class FilesToldTest(Running, unittest.TestCase):
    def test_files_that_were_rewritten(self):
        text = (
            "program p(input, a, output, b, c); " + KINDS + " var a: file of color; b: file of rec; c, d: text; r: rec;"
            " begin rewrite(a); write(a, red, blue); rewrite(b); r.t := true; write(b, r); reset(b); reset(c); write('x') end.")
        files, end = run(Program(text), (("c", "k"), ("input", "")), 99)
        self.assertEqual(end, ("done",))
        self.assertEqual(files, (("a", ("red", "blue")), ("b", ((None, True, 0, (None, None)),)), ("output", "x")))

    def test_what_is_at_the_end_of_a_trap_and_of_fuel(self):
        text = "program p(output, g); type k = ^char; var g: file of k; v: k; begin rewrite(g); new(v); write(g, v, nil); write(1 div 0) end."
        self.assertEqual(run(Program(text), (), 99), ((("g", ("piece", "nil")), ("output", "")), ("trap", "nought", 1)))
        self.assertEqual(run(Program(text), (), 2), ((("g", ()), ("output", "")), ("on",)))
        self.assertEqual(run(Program(text), (), 1), ((("output", ""),), ("on",)))

    def test_head_in_its_sequence(self):
        self.assertEqual(run(Program("program p(input, output); begin end."), (), 5), ((), ("trap", "file", 1)))
        self.assertEqual(run(Program("program p(output, input); begin end."), (), 5), ((("output", ""),), ("trap", "file", 1)))
        self.assertEqual(run(Program("program p(f); var f: text; begin end."), (), 5), ((), ("done",)))


class InputsTest(Running, unittest.TestCase):
    HEAD = (
        "program p(input, output, a, b, c, d, e, g); " + KINDS + " var a: file of 1..9; b: file of color; c: file of rec;"
        " d: file of free; e: file of ptr; g: file of set of 2..5; h: text; begin end.")

    def setUp(self):
        self.program = Program(self.HEAD)

    def fine(self, *inputs):
        self.assertIn(run(self.program, inputs, 9)[1][0], ("done", "trap"))
        seen(self.program, inputs, 1)

    def bad(self, inputs):
        self.refused(BadInputs, inputs, run, self.program, inputs, 9)
        self.refused(BadInputs, inputs, run, self.program, inputs, 0)
        self.refused(BadInputs, inputs, seen, self.program, inputs, 9)
        self.refused(BadInputs, inputs, seen, self.program, inputs, 0)

    def test_right_ones(self):
        self.fine()
        self.fine(("input", "a\nb"), ("a", (1, 9)), ("b", ("red", "blue")), ("c", (("red", True, 0, (1, 2)),)), ("e", ()))
        self.fine(("c", (("blue", False, 1, ()), ("red", True, 0, (5, 6)))))
        self.fine(("d", ((0, ("x", "red", 0, (1,))), (0, ("x", "blue", 1, ())), (1, (True,)), (2, ()))))
        self.fine(("g", ((), (2, 5), (3,))), ("a", ()), ("input", ""))

    def test_wrong_ones(self):
        for inputs in (
                None, "", [], 5, True, {}, (("input", "a"), ("input", "b")), (("output", ""),), (("h", ""),), (("x", ""),),
                ("input", "a"), (("input",),), (("input", "a", "b"),), (["input", "a"],), ((1, "a"),), (("Input", "a"),),
                (("input", None),), (("input", ("a",)),), (("input", "a\tb"),), (("input", "\x7f"),), (("a", None),),
                (("a", "12"),), (("a", [1]),), (("a", (0,)),), (("a", (10,)),), (("a", (True,)),), (("a", (1, None)),),
                (("a", ("1",)),), (("b", (0,)),), (("b", ("yellow",)),), (("b", ("Red",)),), (("b", (("red",),)),),
                (("g", ((1,),)),), (("g", ((6,),)),), (("g", ((3, 2),)),), (("g", ((2, 2),)),), (("g", (2,)),), (("g", ((True,),)),),
                (("g", ([2],)),), (("e", ("nil",)),), (("e", ("piece",)),), (("e", (0,)),), (("e", (None,)),)):
            self.bad(inputs)

    def test_wrong_records(self):
        for thing in (
                ("red", True, 0, (1,)), ("red", True, 0, (1, 2, 3)), ("red", True, 0, (1, None)), ("red", True, 1, ()),
                ("red", False, 0, (1, 2)), ("red", True, None, ()), ("red", None, 1, ()), (None, True, 0, (1, 2)),
                ("red", True, 2, ()), ("red", 1, 0, (1, 2)), ("red", True, False, (1, 2)), ["red", True, 0, (1, 2)],
                ("red", True, 0, [1, 2]), ("red", False, 1, (1,)), ("red", False, 1, None), (), "red", ("red", False),
                ("red", True, -1, ()), ("red", True, 0, (1, 2147483648)), ("red", True, 0, (1, True))):
            self.bad((("c", (thing,)),))
        for thing in ((3, ()), (None, ()), (0, ("x", "red", 1, ())), (0, ("x", "red", 0, ())), (1, ()), (2, (1,)), (-1, ())):
            self.bad((("d", (thing,)),))

    def test_what_is_read_of_inputs(self):
        text = "program p(output, c); " + KINDS + " var c: file of rec; r: rec; begin reset(c); read(c, r); write(r.b: 1, ord(r.k): 1) end."
        self.assertEqual(run(Program(text), (("c", (("blue", True, 0, (5, 6)),)),), 99)[0], (("output", "62"),))
        text = (
            "program p(output, b); " + KINDS + " var b: file of array [1..3] of free; begin reset(b); if b^[1].w then write(b^[2].z: 1);"
            " write(b^[2].x, b^[3].x) end.")
        things = ((1, (True,)), (0, ("k", "red", 0, (4,))), (0, ("m", "blue", 1, ())))
        self.assertEqual(run(Program(text), (("b", (things,)),), 99)[0], (("output", "4km"),))
        text = "program p(output, b); var b: file of set of 0..127; s: set of 0..127; begin reset(b); s := b^; write(5 in s: 5) end."
        self.assertEqual(run(Program(text), (("b", ((0, 5, 127),)),), 99)[0], (("output", " true"),))
        text = "program p(output, b); var b: file of boolean; begin reset(b); get(b); write(b^: 5, not b^: 5) end."
        self.assertEqual(run(Program(text), (("b", (False, True)),), 99)[0], (("output", " truefalse"),))
        text = "program p(output, b); var b: file of packed array [1..2] of char; begin reset(b); write(b^) end."
        self.assertEqual(run(Program(text), (("b", (("a", "'"),)),), 99)[0], (("output", "a'"),))


class StepsTest(Running, unittest.TestCase):
    def test_fuel_that_is_wrong(self):
        program = Program("program p; begin end.")
        for value in (0, -1, 100001, True, False, None, "5", (5,), [5]):
            self.refused(BadFuel, value, run, program, (), value)
            self.refused(BadNumber, value, seen, program, (), value)
        self.assertEqual(run(program, (), 100000), ((), ("done",)))
        self.assertEqual(seen(program, (), 100000), ("done",))

    def test_just_as_much_as_is_needed_and_one_less(self):
        for body, steps in (
                ("", 2), ("i := 1", 2), (";", 3), ("begin end", 3), ("begin ; end", 4), ("if true then", 3),
                ("if false then i := 1", 2), ("if true then i := 1 else", 3), ("while false do", 2),
                ("for i := 1 to 4 do", 6), ("for i := 1 to 4 do begin end", 10), ("repeat until true", 3),
                ("repeat ; until true", 4), ("case 1 of 1: end", 3), ("with r do", 3), ("with r, r do a := 1", 3),
                ("with r do with r do a := 1", 4), ("q", 4), ("q; q", 7), ("goto 7; i := 1; 7: i := 2", 3),
                ("7: i := 2", 2), ("i := f", 4), ("7: ", 2), ("begin begin i := 1 end; end", 5)):
            told = (
                "program p; LABEL var i: integer; r: record a: integer end; procedure q; begin end;"
                " function f: integer; begin f := 1 end; begin ")
            program = Program(told.replace("LABEL", "label 7;" if "7:" in body else "") + body + " end.")
            self.assertEqual(run(program, (), steps)[1], ("done",), body)
            self.assertEqual(run(program, (), steps - 1)[1], ("on",), body)
            self.assertEqual(seen(program, (), steps)[0], "stop")
            self.assertEqual(seen(program, (), steps + 1), ("done",))

    def test_each_step_of_a_whole_program(self):
        text = (
            "program p(output);\nvar i: integer;\n procedure q(k: integer);\n begin\n  write(k: 1);\n end;\nbegin\n"
            " i := 2;\n while i > 0 do begin\n  q(i); i := i - 1 end\nend.")
        program = Program(text)
        places = []
        for number in range(1, 30):
            stop = seen(program, (), number)
            if stop[0] != "stop":
                self.assertEqual(stop, ("done",))
                break
            places.append(stop[1:4])
        outer, inner = ("p",), ("p", "q")
        once = [(9, 17, outer), (10, 3, outer), (4, 2, inner), (5, 3, inner), (6, 2, inner), (10, 9, outer)]
        self.assertEqual(places, [(7, 1, outer), (8, 2, outer), (9, 2, outer)] + once + once)

    def test_seen_tells_the_names_ahead_of_the_step(self):
        program = Program("program p; var i, j: integer; begin i := 1; j := i; i := 3 end.")
        self.assertEqual([seen(program, (), number)[4] for number in (1, 2, 3, 4)], [
            (("i", None), ("j", None)), (("i", None), ("j", None)), (("i", 1), ("j", None)), (("i", 1), ("j", 1))])

    def test_the_end_if_it_ends_before(self):
        program = Program("program p(output); begin\nwrite(1 mod 0) end.")
        self.assertEqual(seen(program, (), 2)[:3], ("stop", 2, 1))
        self.assertEqual(seen(program, (), 3), ("trap", "below", 2))

    def test_names_of_parameters_that_routines_take_are_not_there(self):
        program = Program("program p; procedure q(procedure r(n: integer)); begin end; procedure t(n: integer); begin end; begin q(t) end.")
        self.assertEqual(seen(program, (), 3)[4], (("r", "routine"),))

    def test_equal_calls_return_equal_results(self):
        text = "program p(output); var i: integer; begin for i := 1 to 3 do write(i) end."
        program = Program(text)
        for number in range(1, 7):
            self.assertEqual(run(program, (), number), run(Program(text), (), number))
            self.assertEqual(seen(program, (), number), seen(Program(text), (), number))


if __name__ == "__main__":
    unittest.main()
