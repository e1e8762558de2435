"""Programs: texts whose names and kinds are right."""

from begunended.blockchecks import BlockChecks
from begunended.errors import Wide
from begunended.reading import read_whole
from begunended.tokens import tokens

LONGEST_STRING = 255


class Program:
    """A program: its text, its tree, and what was found out of it.

    Root is the node of the text; facts are those of begunended.told; plan is what begunended.plaincode makes
    of it, None until that is asked for.
    """

    def __init__(self, text):
        rows = tokens(text)
        root = read_whole(text, rows)
        if [told for sort, told, _, _ in rows if sort == "string" and len(told) > LONGEST_STRING]:
            raise Wide(LONGEST_STRING)
        self.text = text
        self.tree = root.tree
        self.root = root
        self.facts = BlockChecks(rows).check_text(root)
        self.plan = None

    def __eq__(self, other):
        return isinstance(other, Program) and self.text == other.text
