"""The errors of all stages: each keeps the value that was wrong, or what was found of it."""


class StageError(ValueError):
    """An error of one of the stages; value is what it was created with."""

    def __init__(self, value):
        ValueError.__init__(self, value)
        self.value = value


class BadToken(StageError):
    """A place in a text at which neither a token nor a comment begins."""


class BadSyntax(StageError):
    """A token with which the tokens are no beginning of a text any more."""


class BadName(StageError):
    """What is wrong with a name or a label: (line, column, word)."""


class BadKind(StageError):
    """What is wrong with a kind: (line, column, word)."""


class Wide(StageError):
    """More than the told number of something."""


class TooLong(StageError):
    """The number of a routine whose code would be too long."""


class BadValue(StageError):
    """A value that is none of those that are wanted."""


class BadInputs(StageError):
    """What a run, a file or a machine cannot take as inputs."""


class BadFuel(StageError):
    """What is no number of steps."""


class BadNumber(StageError):
    """What is no number of the wanted kind."""


class BadNumbers(StageError):
    """What is no ascending tuple of numbers."""


class NoPlace(StageError):
    """A place where nothing of the wanted kind is told."""


class Caught(StageError):
    """A telling that cannot have another name."""


class BadSet(StageError):
    """What is no set text."""


class BadSaying(StageError):
    """What is no saying of sets."""


class BadSayings(StageError):
    """What is no tuple of sayings."""


class BadWorld(StageError):
    """What is no world with all names of a set text."""


class NoWorld(StageError):
    """Sayings that no world keeps."""


class Trap(StageError):
    """The word of a deed that cannot be done."""


class BadSort(StageError):
    """What is no sort of files."""


class NotText(StageError):
    """The sort of a file that is no text."""


class BadWidth(StageError):
    """What is no width."""


class BadText(StageError):
    """What is no tuple of lines."""


class BadRoom(StageError):
    """What is no number of cells of a heap."""


class BadSize(StageError):
    """What is no size of a piece."""


class BadPiece(StageError):
    """What is no number of a piece."""


class BadOffset(StageError):
    """What is no offset within a piece."""


class BadUnit(StageError):
    """The first row of a unit that cannot stand there."""


class BadLayout(StageError):
    """What is no layout."""


class BadWords(StageError):
    """What is no words of a unit."""


class BadUnits(StageError):
    """What is no tuple of units that can be joined."""


class Clash(StageError):
    """A name that two units tell otherwise."""


class Missing(StageError):
    """A chain of procs that leads to one told nowhere."""


class Unfit(StageError):
    """A needed name whose proc is another one."""


class NoProc(StageError):
    """What is no proc of a unit."""


class NoRow(StageError):
    """What is no row of a proc."""


class BadShape(StageError):
    """What is no shape of a workspace."""


class NotWhole(StageError):
    """The names that a unit needs of others."""


class NotLet(StageError):
    """What the checker tells of a unit that it refuses."""


class NoFrame(StageError):
    """What is no number of a frame that is there."""


class BadPasses(StageError):
    """What is no tuple of passes."""


class BadSeam(StageError):
    """The first row of a seam that cannot stand there, or does not fit."""


class NoStop(StageError):
    """No stop at which names have values."""


class BadLines(StageError):
    """What is no stretch of lines of a text."""


class BadLine(StageError):
    """What is no line of a text."""


class Long(StageError):
    """The number of stops beyond which a desk does not go."""


class Ended(StageError):
    """The end at which a desk stands already."""


class NothingAhead(StageError):
    """There is no stop ahead of this one."""


class NothingToUndo(StageError):
    """There is no deed that stands."""


class NothingToRedo(StageError):
    """There is no deed that was taken back."""


class NoTrial(StageError):
    """There is no trial that could be kept."""


class BadJournal(StageError):
    """The first line of a journal that cannot stand there."""
