"""The required names, told around all texts."""

from begunended.kindlore import integer_kind, ordinal_kind, text_kind
from begunended.told import Region, Telling
from begunended.values import MAXINT

PROCEDURES = ("read", "readln", "write", "writeln", "reset", "rewrite", "get", "put", "new", "dispose")
FUNCTIONS = ("abs", "sqr", "odd", "ord", "chr", "succ", "pred", "eof", "eoln")
FILES = ("input", "output")


def required_region():
    """The region of the whole text."""
    region = Region(None, 0)
    integer = integer_kind()
    boolean = ordinal_kind("boolean", 0, 1)
    char = ordinal_kind("char", 32, 126)
    text = text_kind(char)
    for kind in (integer, boolean, char, text):
        tell_required(region, kind.form, "kind", kind)
    for name, kind, value in (("false", boolean, 0), ("true", boolean, 1), ("maxint", integer, MAXINT)):
        telling = tell_required(region, name, "constant", kind)
        telling.value = value
    for name in FILES:
        tell_required(region, name, "variable", text)
    for name in (*PROCEDURES, *FUNCTIONS):
        telling = tell_required(region, name, "required", None)
        telling.calling = "procedure" if name in PROCEDURES else "function"
    return region


def tell_required(region, name, word, kind):
    telling = Telling(name, word, None)
    telling.kind = kind
    telling.region = region
    region.told[name] = telling
    return telling
