"""Journals: what was done at a desk, as a text, and read back."""

from begunended.desk import Desk, journal_rows
from begunended.errors import BadJournal, StageError
from begunended.layoutforms import is_word
from begunended.program import Program
from begunended.tokens import is_figure

MOST_FIGURES = 10
# Stands for all numbers of more figures: none of these counts anything.
BEYOND = 10000000000


def journal(desk):
    """The text of what was done at a desk."""
    return "\n".join(journal_rows(desk))


def read_journal(text):
    """A desk on which all that a text tells was done."""
    if not isinstance(text, str):
        raise BadJournal(0)
    reader = JournalReader(text)
    return reader.read()


def number_read(word):
    """The integer that a word is, as Python writes it, None for what is none."""
    figures = word[1:] if word.startswith("-") else word
    if figures == "" or not all([is_figure(sign) for sign in figures]):
        return None
    if figures != "0" and figures.startswith("0") or word == "-0":
        return None
    number = BEYOND if len(figures) > MOST_FIGURES else int(figures)
    return -number if word.startswith("-") else number


class JournalReader:
    """A journal that is being read: its rows, and which one is next."""

    def __init__(self, text):
        self.rows = text.split("\n")
        self.at = 0

    def want(self, is_right):
        """Tells the next row as one that cannot stand there, or as missing, unless it can."""
        if not is_right:
            raise BadJournal(self.at + 1)

    def words(self):
        """The words of the next row."""
        self.want(self.at < len(self.rows))
        return self.rows[self.at].split(" ")

    def numbered_row(self, words, most):
        """The integers behind the first words of the next row, so many words in all."""
        row = self.words()
        self.want(len(row) == most and row[:len(words)] == words)
        numbers = [number_read(word) for word in row[len(words):]]
        self.want(None not in numbers)
        return numbers

    def rows_told(self, many, least):
        """Goes by the next row, and the rows behind it that it tells: these."""
        self.want(many >= least)
        begin = self.at + 1
        if begin + many > len(self.rows):
            raise BadJournal(len(self.rows) + 1)
        self.at = begin + many
        return self.rows[begin:self.at]

    def read(self):
        """Reads all rows: the desk on which the deeds were done."""
        many = self.numbered_row(["program"], 2)[0]
        text = "\n".join(self.rows_told(many, 1))
        inputs = []
        while self.words()[0] == "input":
            row = self.words()
            self.want(len(row) == 3 and is_word(row[1]))
            many = self.numbered_row(row[:2], 3)[0]
            inputs.append((row[1], "\n".join(self.rows_told(many, 1))))
        self.want(self.words() == ["deeds"])
        desk = self.desk_of(text, tuple(inputs))
        self.at += 1
        while self.at < len(self.rows):
            self.do_deed(desk)
        return desk

    def desk_of(self, text, inputs):
        """The desk at the begin; what is no program, or no inputs, is told of the row deeds."""
        try:
            return Desk(Program(text), inputs)
        except StageError:
            raise BadJournal(self.at + 1) from None

    def do_deed(self, desk):
        """Does the deed of the next row, which is told if it is refused."""
        row = self.at + 1
        word = self.words()[0]
        numbers, lines = self.deed_read(word)
        try:
            if word == "mark":
                desk.mark(numbers[0])
            elif word == "step":
                desk.step()
            elif word == "over":
                desk.over()
            elif word == "go":
                desk.go()
            elif word == "back":
                desk.back()
            else:
                desk.edit(numbers[0], numbers[1], lines)
        except StageError:
            raise BadJournal(row) from None

    def deed_read(self, word):
        """Goes by the rows of a deed: its numbers, and the lines of an edit."""
        if word == "edit":
            numbers = self.numbered_row(["edit"], 4)
            return numbers, tuple(self.rows_told(numbers[2], 0))
        self.want(word in ("mark", "step", "over", "go", "back"))
        numbers = self.numbered_row([word], 2 if word == "mark" else 1)
        self.at += 1
        return numbers, ()
