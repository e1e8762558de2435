"""What several tests need."""

import os

PACKAGE = os.path.join(os.path.dirname(os.path.dirname(os.path.abspath(__file__))), "begunended")


class Refusing:
    """For test cases: whether a call raises just this error with just this value."""

    def refused(self, error, value, function, *given, **named):
        with self.assertRaises(error) as caught:
            function(*given, **named)
        self.assertIs(type(caught.exception), error)
        self.assertEqual(caught.exception.value, value)
        self.assertIs(type(caught.exception.value), type(value))


def marked(text):
    """A text without the @ in it, and the line and column where this stood."""
    at = text.index("@")
    ahead = text[:at]
    return text.replace("@", ""), (ahead.count("\n") + 1, at - ahead.rfind("\n"))


class Judging(Refusing):
    """For test cases: texts that are programs, and such as are not, with the wrong place marked by @."""

    def right(self, *texts):
        from begunended.program import Program
        for text in texts:
            self.assertEqual(Program(text).text, text)

    def wrong(self, error, word, *texts):
        from begunended.program import Program
        for text in texts:
            clean, place = marked(text)
            with self.assertRaises(ValueError, msg=text) as caught:
                Program(clean)
            self.assertIs(type(caught.exception), error, (text, caught.exception.value))
            self.assertEqual(caught.exception.value, (*place, word), text)
            self.assertIs(type(caught.exception.value), tuple)


def ran(text, inputs=(), fuel=100000):
    """What the output holds at the end of a run, and the end."""
    from begunended.program import Program
    from begunended.running import run
    program = Program(text)
    want_let(program)
    told, end = run(program, inputs, fuel)
    return dict(told).get("output"), end


def want_let(program):
    """Point 3 (a): the plain unit of each program is let, with no less work; its words are read back (c)."""
    from begunended.checking import checked
    from begunended.compiling import compiled
    from begunended.depths import least_work
    from begunended.errors import TooLong
    from begunended.words import unit_of, words
    try:
        unit = compiled(program)
    except TooLong:
        return
    told = checked(unit)
    assert told[0] == "let", (program.text, told)
    assert least_work(unit) == unit, program.text
    assert unit_of(words(unit)) == unit, program.text


def statements(told, body):
    """A program that tells this and does these statements."""
    return "program p(output); " + told + " begin " + body + " end."


class Running(Refusing):
    """For test cases: what programs write, and how they end."""

    def writes(self, output, told, body, inputs=(), head="output"):
        text = statements(told, body).replace("(output)", "(" + head + ")", 1)
        self.assertEqual(ran(text, inputs), (output, ("done",)), text)

    def traps(self, word, told, body, inputs=(), head="output"):
        """A trap in line 3: the statement that traps stands there, the end of the program in line 4."""
        text = "program p(" + head + "); " + told + "\nbegin\n" + body + "\nend."
        self.assertEqual(ran(text, inputs)[1], ("trap", word, 3), text)

    def ends(self, told, body, inputs=(), head="output"):
        text = "program p(" + head + "); " + told + "\nbegin\n" + body + "\nend."
        self.assertEqual(ran(text, inputs)[1], ("done",), text)
