"""The required names, told around all texts."""

from begunended.kindlore import integer_kind, ordinal_kind, text_kind
from begunended.told import Region, Telling
from begunended.values import MAXINT

PROCEDURES = ("read", "readln", "write", "writeln", "reset", "rewrite", "get", "put", "new", "dispose")
FILES = ("input", "output")
# What each required name is told as.
REQUIRED = {
    "integer": "kind", "boolean": "kind", "char": "kind", "text": "kind", "false": "constant", "true": "constant",
    "maxint": "constant", "input": "variable", "output": "variable", "abs": "required", "sqr": "required",
    "odd": "required", "ord": "required", "chr": "required", "succ": "required", "pred": "required", "eof": "required",
    "eoln": "required", "read": "required", "readln": "required", "write": "required", "writeln": "required",
    "reset": "required", "rewrite": "required", "get": "required", "put": "required", "new": "required",
    "dispose": "required",
}


class RequiredRegion(Region):
    """The region of the whole text, which tells a name when it is first asked for: most texts use few."""

    def __init__(self):
        super().__init__(None, 0)
        self.integer = integer_kind()
        self.boolean = ordinal_kind("boolean", 0, 1)
        self.char = ordinal_kind("char", 32, 126)
        self.text = text_kind(self.char)

    def make_ready(self, name):
        """Tells this name, if it is a required one that is not told yet."""
        if name in self.told or name not in REQUIRED:
            return
        telling = Telling(name, REQUIRED[name], None)
        telling.region = self
        telling.kind = self.kind_required(name)
        if telling.word == "constant":
            telling.value = MAXINT if name == "maxint" else int(name == "true")
        elif telling.word == "required":
            telling.calling = "procedure" if name in PROCEDURES else "function"
        self.told[name] = telling

    def kind_required(self, name):
        """The kind of what a required name is told as, None for routines."""
        if name == "integer" or name == "maxint":
            return self.integer
        if name == "boolean" or name == "true" or name == "false":
            return self.boolean
        if name == "char":
            return self.char
        return self.text if name == "text" or name in FILES else None
