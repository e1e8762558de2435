"""Files and shown values (section 10)."""

import unittest

from begunended.errors import BadInputs, BadSort, BadValue, BadWidth, NotText, Trap
from begunended.files import File
from begunended.heap import Heap
from begunended.shown import shown
from tests.common import Refusing

SIGNS = "".join(chr(number) for number in range(32, 127))


def text(contents):
    """A text file that is being read."""
    file = File("text", contents)
    file.reset()
    return file


def things(*contents):
    file = File("things", contents)
    file.reset()
    return file


def writing(word):
    file = File(word, None)
    file.rewrite()
    return file


def state(file):
    return (
        file.is_text, file.standing, file.all_things, file.behind, file.to_come, file.looked, file.copied() == file)


class FileCase(Refusing, unittest.TestCase):
    def traps(self, word, file, deed, *given, looked=None):
        """Wants a deed to trap and to change nothing but what was looked at."""
        before = state(file)
        self.refused(Trap, word, getattr(file, deed), *given)
        after = list(before)
        after[5] = before[5] if looked is None else looked
        self.assertEqual(state(file), tuple(after))


class MakingTest(FileCase):
    def test_standings(self):
        for word, contents, nothing in (("text", "ab\n", ""), ("things", (1, 2), ())):
            file = File(word, contents)
            self.assertEqual(state(file), (word == "text", "closed", contents, nothing, contents, 0, True))
            file.reset()
            self.assertEqual(state(file), (word == "text", "reading", contents, nothing, contents, 0, True))
            file.rewrite()
            self.assertEqual(state(file), (word == "text", "writing", nothing, nothing, nothing, 0, True))
            file = File(word, None)
            self.assertEqual(state(file), (word == "text", "unused", None, None, None, 0, True))
            file.rewrite()
            self.assertEqual(file.standing, "writing")
            self.assertEqual(state(File(word, nothing)), (word == "text", "closed", nothing, nothing, nothing, 0, True))

    def test_bad_sort(self):
        for word in ("", "texts", "Text", "file", None, True, 1, ("text",), ["text"], {}):
            self.refused(BadSort, word, File, word, None)
            self.refused(BadSort, word, File, word, "\t")

    def test_bad_inputs(self):
        for contents in ((), ("a",), ["a"], 5, True, False, 0, "\t", "a\rb", "\x7f", {}, Heap(1), b"a"):
            self.refused(BadInputs, contents, File, "text", contents)
        for contents in ("", "ab", [1], (None,), (1, None), (None, 1), 5, True, {}, Heap(1)):
            self.refused(BadInputs, contents, File, "things", contents)
        self.assertEqual(File("text", SIGNS + "\n\n").all_things, SIGNS + "\n\n")
        values = (0, True, "", "ab", (), (None,), [None], {"a": None}, Heap(1), False, -5)
        self.assertEqual(File(word="things", contents=values).all_things, values)

    def test_properties_are_strings_or_tuples(self):
        file = text("ab")
        file.get()
        self.assertEqual((file.behind, file.to_come), ("a", "b"))
        file = things([1], "x")
        file.get()
        self.assertEqual((file.behind, file.to_come), (([1],), ("x",)))


class DeedsTest(FileCase):
    def test_reset(self):
        self.traps("file", File("text", None), "reset")
        self.traps("file", File("things", None), "reset")
        file = text("ab")
        file.get()
        self.assertIsNone(file.reset())
        self.assertEqual(state(file)[1:6], ("reading", "ab", "", "ab", 0))
        file = writing("text")
        file.write_string("ab", 2)
        file.fill("x")
        file.reset()
        self.assertEqual(state(file)[1:6], ("reading", "ab", "", "ab", 0))
        self.assertEqual(file, text("ab"))

    def test_rewrite(self):
        for file in (File("text", None), File("text", "ab"), text("ab"), writing("text")):
            self.assertIsNone(file.rewrite())
            self.assertEqual(state(file)[1:6], ("writing", "", "", "", 0))
        file = writing("things")
        file.fill(5)
        file.rewrite()
        self.traps("unset", file, "seen")

    def test_at_end(self):
        for file in (File("text", None), File("text", "a"), File("things", None), File("things", ())):
            self.traps("file", file, "at_end")
        self.assertIs(writing("text").at_end(), True)
        file = things(1)
        self.assertIs(file.at_end(), False)
        self.assertEqual(file.looked, 1)
        self.assertIs(file.at_end(), False)
        file.get()
        self.assertEqual(file.looked, 1)
        self.assertIs(file.at_end(), True)
        self.assertEqual(file.looked, 2)
        self.assertIs(file.at_end(), True)
        self.assertEqual(file.looked, 2)

    def test_at_end_of_texts(self):
        for contents, many in (("", 0), ("a", 2), ("a\n", 2), ("\n", 1), ("\n\n", 2), ("a\nb", 4)):
            file = text(contents)
            for number in range(many):
                self.assertIs(file.at_end(), False)
                self.assertEqual(file.looked, number + 1)
                file.get()
            self.assertIs(file.at_end(), True)
            self.assertEqual((file.looked, file.behind, file.to_come), (many + 1, contents, ""))

    def test_seen(self):
        for file in (File("text", None), File("text", "a"), File("things", None), File("things", (1,))):
            self.traps("file", file, "seen")
        for word, thing in (("text", "a"), ("things", 5), ("things", [None])):
            file = writing(word)
            self.traps("unset", file, "seen")
            file.fill(thing)
            self.assertEqual((file.seen(), file.seen(), file.looked), (thing, thing, 0))
        file = text("a\nb")
        told = []
        for _ in range(4):
            told.append((file.seen(), file.looked))
            file.get()
        self.assertEqual(told, [("a", 1), (" ", 2), ("b", 3), (" ", 4)])
        self.traps("end", file, "seen", looked=5)
        self.traps("end", things(), "seen", looked=1)
        self.assertEqual(things("\n").seen(), "\n")

    def test_fill(self):
        for contents in (None, "a"):
            self.traps("file", File("text", contents), "fill", "a")
        self.traps("file", text("a"), "fill", "a")
        self.traps("file", things(1), "fill", 1)
        for word in ("text", "things"):
            for file in (File(word, None), writing(word)):
                self.refused(BadValue, None, file.fill, None)
        for thing in ("", "ab", "\n", "\t", 1, True, ("a",), ["a"]):
            self.refused(BadValue, thing, File("text", None).fill, thing)
            self.refused(BadValue, thing, writing("text").fill, thing)
        for sign in SIGNS:
            file = writing("text")
            self.assertIsNone(file.fill(sign))
            self.assertEqual(file.seen(), sign)
        for thing in ("", "ab", "\n", 0, False, (), (None,), [], {}):
            file = writing("things")
            file.fill(thing)
            self.assertEqual(file.seen(), thing)
            self.assertEqual(file.all_things, ())

    def test_get(self):
        for file in (File("text", None), File("text", "a"), writing("text"), writing("things"), File("things", (1,))):
            self.traps("file", file, "get")
        file = things(1, 2)
        self.assertIsNone(file.get())
        self.assertEqual((file.behind, file.to_come, file.looked), ((1,), (2,), 1))
        file.get()
        self.traps("end", file, "get", looked=3)
        file = text("a")
        file.get()
        self.assertEqual((file.behind, file.to_come), ("a", ""))
        file.get()
        self.assertEqual((file.behind, file.to_come, file.looked), ("a", "", 2))
        self.traps("end", file, "get", looked=3)
        self.traps("end", text(""), "get", looked=1)

    def test_put(self):
        for file in (File("text", None), File("things", (1,)), text("a"), things(1)):
            self.traps("file", file, "put")
        for word in ("text", "things"):
            file = writing(word)
            self.traps("unset", file, "put")
            file.fill("a")
            self.assertIsNone(file.put())
            self.assertEqual(len(file.all_things), 1)
            self.assertEqual(file.all_things, file.behind)
            self.assertEqual(len(file.to_come), 0)
            self.traps("unset", file, "seen")
            self.traps("unset", file, "put")
        file = writing("things")
        for thing in (1, [2], (None,)):
            file.fill(thing)
            file.put()
        self.assertEqual(file.all_things, (1, [2], (None,)))


class TextDeedsTest(FileCase):
    READING = (("at_line_end",), ("read_sign",), ("read_line",), ("read_number",))
    WRITING = (
        ("write_number", 1, 1), ("write_truth", True, 1), ("write_sign", "a", 1), ("write_string", "ab", 1), ("write_line",))

    def test_not_text_comes_ahead_of_all(self):
        for file in (File("things", None), File("things", (1,)), things(1), writing("things")):
            for deed, *given in (*self.READING, *self.WRITING, ("write_number", None, 0), ("write_string", 5, None)):
                before = state(file)
                self.refused(NotText, "things", getattr(file, deed), *given)
                self.assertEqual(state(file), before)

    def test_file(self):
        for file in (File("text", None), File("text", "1"), writing("text")):
            for deed in self.READING:
                self.traps("file", file, *deed)
        for file in (File("text", None), File("text", "1"), text("1")):
            for deed in self.WRITING:
                self.traps("file", file, *deed)
            self.traps("file", file, "write_number", 1, 0)
        file = writing("text")
        file.fill("x")
        self.traps("file", file, "read_sign")

    def test_at_line_end(self):
        file = text("a\n\nb")
        told = []
        for _ in range(5):
            told.append((file.at_line_end(), file.looked))
            file.get()
        self.assertEqual(told, [(False, 1), (True, 2), (True, 3), (False, 4), (True, 5)])
        self.traps("end", file, "at_line_end", looked=6)
        self.traps("end", text(""), "at_line_end", looked=1)

    def test_read_sign(self):
        file = text("a \nb")
        self.assertEqual([file.read_sign() for _ in range(5)], ["a", " ", " ", "b", " "])
        self.assertEqual((file.behind, file.looked), ("a \nb", 5))
        self.traps("end", file, "read_sign", looked=6)

    def test_read_line(self):
        file = text("ab\n\ncd")
        self.assertIsNone(file.read_line())
        self.assertEqual((file.behind, file.looked), ("ab\n", 3))
        file.read_line()
        self.assertEqual((file.behind, file.looked), ("ab\n\n", 4))
        file.get()
        file.read_line()
        self.assertEqual((file.behind, file.to_come, file.looked), ("ab\n\ncd", "", 7))
        self.traps("end", file, "read_line", looked=8)
        self.traps("end", text(""), "read_line", looked=1)

    def test_read_number(self):
        rows = [
            ("5", 5, "5", 2), ("5 ", 5, "5", 2), ("  \n \n12x", 12, "  \n \n12", 8), ("+7\n", 7, "+7", 3), ("-7", -7, "-7", 3),
            ("007-", 7, "007", 4), ("0", 0, "0", 2), ("-0", 0, "-0", 3), ("2147483647", 2147483647, "2147483647", 11),
            ("-2147483647", -2147483647, "-2147483647", 12), ("0" * 4390 + "12", 12, "0" * 4390 + "12", 4393),
            ("3..4", 3, "3", 2), ("1+2", 1, "1", 2)]
        for contents, number, behind, looked in rows:
            file = text(contents)
            told = file.read_number()
            self.assertEqual((told, file.behind, file.looked), (number, behind, looked))
            self.assertIs(type(told), int)
            self.assertEqual(file.behind + file.to_come, contents)

    def test_read_number_traps(self):
        rows = [
            ("", "end", "", 1), (" ", "end", " ", 3), ("\n\n", "end", "\n\n", 3), ("  \n ", "end", "  \n ", 6),
            ("x", "figures", "", 1), ("  x", "figures", "  ", 3), ("+", "figures", "+", 2), ("-x", "figures", "-", 2),
            ("- 5", "figures", "-", 2), ("+-5", "figures", "+", 2), ("\n.5", "figures", "\n", 2),
            ("2147483648", "beyond", "2147483648", 11), ("-2147483648 ", "beyond", "-2147483648", 12),
            (" 99999999999x", "beyond", " 99999999999", 13), ("9" * 4400, "beyond", "9" * 4400, 4401)]
        for contents, word, behind, looked in rows:
            file = text(contents)
            self.refused(Trap, word, file.read_number)
            self.assertEqual((file.behind, file.looked, file.standing), (behind, looked, "reading"), contents)

    def test_numbers_written_are_read_again(self):
        file = writing("text")
        numbers = (0, -1, 5, 2147483647, -2147483647, 10)
        for at, number in enumerate(numbers):
            file.write_number(number, at + 1)
            if at % 2:
                file.write_line()
            else:
                file.write_sign(" ", 1)
        file.reset()
        self.assertEqual(tuple([file.read_number() for _ in numbers]), numbers)

    def test_writing(self):
        file = writing("text")
        for deed, value, width in (
                ("write_number", -12, 5), ("write_number", 12345, 2), ("write_truth", True, 6), ("write_truth", False, 3),
                ("write_sign", "x", 3), ("write_string", "abc", 5), ("write_string", "abc", 2), ("write_sign", "y", 1)):
            self.assertIsNone(getattr(file, deed)(value, width))
        self.assertEqual(file.all_things, "  -12" + "12345" + "  true" + "fal" + "  x" + "  abc" + "ab" + "y")
        self.assertIsNone(file.write_line())
        self.assertEqual(file.behind[-2:], "y\n")
        self.assertEqual((file.to_come, file.looked, file.at_end()), ("", 0, True))

    def test_the_window_stays(self):
        file = writing("text")
        file.fill("x")
        for deed in self.WRITING:
            getattr(file, deed[0])(*deed[1:])
            self.assertEqual(file.seen(), "x")
        file.put()
        self.assertEqual(file.all_things, "1taa\nx")

    def test_bad_values(self):
        rows = {
            "write_number": (True, None, "1", 2147483648, -2147483648, (1,), [1]), "write_truth": (1, 0, None, "true", ()),
            "write_sign": ("", "ab", "\n", 1, None, ("a",), "\t"), "write_string": ("", "a" * 256, "a\nb", 1, None, ["a"], True)}
        for deed, values in rows.items():
            for value in values:
                for file in (writing("text"), text("a"), File("text", None)):
                    before = state(file)
                    self.refused(BadValue, value, getattr(file, deed), value, 1)
                    self.refused(BadValue, value, getattr(file, deed), value, 0)
                    self.assertEqual(state(file), before)

    def test_widths(self):
        values = {"write_number": 7, "write_truth": True, "write_sign": "a", "write_string": "abc"}
        for deed, value in values.items():
            for width in (0, 256, -1, True, None, "1", (1,), 1000):
                self.traps("width", writing("text"), deed, value, width)
            for width in (1, 2, 255):
                file = writing("text")
                getattr(file, deed)(value=value, width=width)
                self.assertEqual(file.all_things, shown(value, width))


class SameTest(unittest.TestCase):
    def test_copies(self):
        files = [File("text", None), File("things", (1, [2])), text("a\nb"), things(1, 2), writing("text"), writing("things")]
        files[2].read_line()
        files[3].seen()
        files[4].write_number(5, 2)
        files[5].fill([1])
        for file in files:
            other = file.copied()
            self.assertIsInstance(other, File)
            self.assertEqual(other, file)
            self.assertEqual(state(other), state(file))
            before = state(file)
            other.rewrite()
            self.assertEqual(state(file), before)
        self.assertEqual(files[5].copied().seen(), [1])

    def test_equal(self):
        self.assertEqual(File("text", "a"), File("text", "a"))
        self.assertEqual(File("things", (1, "x")), File("things", (1, "x")))
        self.assertFalse(File("text", "") == File("things", ()))
        self.assertFalse(File("text", "") == File("text", None))
        self.assertFalse(File("text", "a") == text("a"))
        self.assertTrue(File("text", "a") != File("text", "b"))
        for other in ("a", None, 0, ("text", "a"), Heap(1)):
            self.assertFalse(File("text", "a") == other)
            self.assertTrue(File("text", "a") != other)

    def test_things_are_the_same_by_sort(self):
        for one, other in (((1,), (True,)), ((0,), (False,)), (((1,),), ([1],)), (([1],), ([True],)), (({1: 2},), ({True: 2},)),
                           (({"a": 1},), ({"a": True},)), (((), ), ([],)), (({"a": 1},), ({"b": 1},)), (("1",), (1,))):
            self.assertFalse(File("things", one) == File("things", other), (one, other))
        for one, other in ((([1, (2,)],), ([1, (2,)],)), (({"a": 1, "b": 2},), ({"b": 2, "a": 1},)), ((Heap(3),), (Heap(3),))):
            self.assertTrue(File("things", one) == File("things", other))

    def test_gone_by_looked_at_and_windows(self):
        one, other = text("ab"), text("ab")
        one.at_end()
        self.assertFalse(one == other)
        other.seen()
        self.assertTrue(one == other)
        one.get()
        self.assertFalse(one == other)
        other.get()
        self.assertTrue(one == other)
        one, other = text("a"), text("a")
        one.read_line()
        other.get()
        other.at_end()
        self.assertEqual((one.behind, one.looked), (other.behind, other.looked))
        self.assertFalse(one == other)
        one, other = writing("things"), writing("things")
        one.fill(1)
        self.assertFalse(one == other)
        other.fill(True)
        self.assertFalse(one == other)
        other.fill(1)
        self.assertTrue(one == other)
        one.put()
        other.put()
        self.assertTrue(one == other)


class ShownTest(Refusing, unittest.TestCase):
    def test_values(self):
        rows = [
            (5, 1, "5"), (5, 3, "  5"), (-5, 3, " -5"), (-12345, 3, "-12345"), (2147483647, 1, "2147483647"),
            (-2147483647, 12, " -2147483647"), (0, 1, "0"), (True, 4, "true"), (True, 6, "  true"), (True, 2, "tr"),
            (False, 5, "false"), (False, 1, "f"), ("a", 1, "a"), ("a", 3, "  a"), ("abc", 2, "ab"), ("abc", 3, "abc"),
            ("abc", 4, " abc"), (" ", 2, "  "), ("a" * 255, 255, "a" * 255), ("a" * 255, 1, "a")]
        for value, width, told in rows:
            self.assertEqual(shown(value, width), told)
        for value in (5, True, "x"):
            self.assertEqual(len(shown(value=value, width=255)), 255)

    def test_bad_values(self):
        for value in (None, "", "a" * 256, "a\nb", "\t", 2147483648, -2147483648, (), (1,), ["a"], {}, Heap(1), b"a"):
            self.refused(BadValue, value, shown, value, 1)
            self.refused(BadValue, value, shown, value, 0)

    def test_bad_widths(self):
        for value in (5, True, "x"):
            for width in (0, 256, -1, True, False, None, "1", (1,), [1], 2147483647):
                self.refused(BadWidth, width, shown, value, width)


if __name__ == "__main__":
    unittest.main()
