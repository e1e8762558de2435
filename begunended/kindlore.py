"""Kinds: what they are made of, and which of them are alike."""

from begunended.values import MAXINT

FILE_FORMS = ("file", "text")
ORDINAL_FORMS = ("integer", "boolean", "char", "told", "stretch")


class Kind:
    """A kind, by its form; what a form does not have is None.

    Forms are integer, boolean, char, told, stretch, array, record, set, pointer, file, text, and of
    expressions string, nil, [] as well. Two kinds are the same only if they are one object: so none
    has an equality of its own.
    """

    def __init__(self, form):
        self.form = form
        self.low = None
        self.high = None
        self.host = None
        self.names = ()
        self.index = None
        self.member = None
        self.is_packed = False
        self.fields = None
        self.by_name = None
        self.base = None
        self.aim = None
        self.aim_name = None
        self.length = None
        self.cells = 1
        self.layout_name = None


class Fields:
    """The fields of a record or of an arm, and the variant behind them, or None."""

    def __init__(self):
        self.rows = []
        self.variant = None


class Variant:
    """A variant: its tag (or None), the kind of its constants, its arms."""

    def __init__(self, tag, kind):
        self.tag = tag
        self.kind = kind
        self.arms = []


class Arm:
    """An arm of a variant: the ordinals of its constants, its fields."""

    def __init__(self, numbers, fields):
        self.numbers = numbers
        self.fields = fields


def ordinal_kind(form, low, high):
    """A kind with these ordinals that is its own host."""
    kind = Kind(form)
    kind.low = low
    kind.high = high
    return kind


def integer_kind():
    return ordinal_kind("integer", -MAXINT, MAXINT)


def text_kind(char):
    kind = Kind("text")
    kind.member = char
    return kind


def told_kind(names):
    kind = ordinal_kind("told", 0, len(names) - 1)
    kind.names = names
    return kind


def stretch_kind(host, low, high):
    kind = ordinal_kind("stretch", low, high)
    kind.host = host
    return kind


def set_kind(base):
    kind = Kind("set")
    kind.base = base
    return kind


def file_kind(member):
    kind = Kind("file")
    kind.member = member
    return kind


def string_kind(length):
    """The kind of a string of so many signs that stands in a text."""
    kind = Kind("string")
    kind.length = length
    return kind


def array_kind(is_packed, index, member):
    kind = Kind("array")
    kind.is_packed = is_packed
    kind.index = index
    kind.member = member
    kind.cells = (index.high - index.low + 1) * member.cells
    return kind


def host_of(kind):
    """The host of an ordinal kind; any other kind itself."""
    return kind.host if kind.form == "stretch" else kind


def is_ordinal(kind):
    return kind.form in ORDINAL_FORMS


def is_file(kind):
    return kind.form in FILE_FORMS


def string_length(kind):
    """How many signs a string kind has, 0 for any other kind."""
    if kind.form == "string":
        return kind.length
    if kind.form != "array" or not kind.is_packed or kind.member.form != "char":
        return 0
    index = kind.index
    if host_of(index).form != "integer" or index.low != 1 or not 2 <= index.high <= 255:
        return 0
    return index.high


def do_agree(one, other):
    """Whether two kinds agree; [] agrees with all sets."""
    if one == other:
        return True
    if is_ordinal(one) and is_ordinal(other):
        return host_of(one) == host_of(other)
    if one.form == "set" and other.form == "set":
        return host_of(one.base) == host_of(other.base)
    if one.form in ("set", "[]") and other.form in ("set", "[]"):
        return True
    return string_length(one) > 0 and string_length(one) == string_length(other)


def may_put(into, kind):
    """Whether a value of one kind may be put into another one."""
    if is_file(into) or is_file(kind):
        return False
    if kind.form == "nil":
        return into.form == "pointer"
    return do_agree(into, kind)


def may_compare(sign, one, other):
    """Whether two kinds can stand on the sides of this sign."""
    if is_ordinal(one) or string_length(one) > 0:
        return do_agree(one, other)
    if one.form in ("set", "[]"):
        return sign not in ("<", ">") and do_agree(one, other)
    if one.form not in ("pointer", "nil") or sign not in ("=", "<>"):
        return False
    return one == other or other.form == "nil" or one.form == "nil" and other.form == "pointer"


def same_heading(one, other):
    """Whether two routines have parameters of the same modes and kinds, and the same kind of result."""
    if one.calling != other.calling or one.kind != other.kind:
        return False
    if len(one.parameters) != len(other.parameters):
        return False
    return all([same_parameter(left, right) for left, right in zip(one.parameters, other.parameters)])


def same_parameter(one, other):
    if one.mode != other.mode:
        return False
    if one.calling is not None:
        return same_heading(one, other)
    return one.kind == other.kind
