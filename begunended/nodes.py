"""Nodes: the parts of a text that was read, each with its tree and where it stands."""


# The parts of a leaf by the sort of its token.
LEAF_PARTS = {"word": ("word",), "name": ("name",), "number": ("number",), "string": ("string",), "sign": ("sign",)}


class Node:
    """A part of a text: its form, its parts, the numbers of its first and last token, its tree.

    A leaf is one token: its only part is its sort, its tree what is told of it. Kind, means and spot
    are set where names and kinds are looked through: the kind of an expression, what a name means,
    what kind of place it is.
    """

    def __init__(self, word, parts, first, last, told):
        self.word = word
        self.parts = parts
        self.first = first
        self.last = last
        self.tree = told
        self.kind = None
        self.means = None
        self.spot = None


def trees_of(nodes):
    """The tuple of the trees of nodes."""
    return tuple([node.tree for node in nodes])


def is_leaf(node, told):
    """Whether this is the word or the sign that is told so."""
    return node.word == "leaf" and node.tree == told and node.parts[0] in ("word", "sign")


def node_of(word, parts, first, last):
    """A node whose tree is its word and the trees of its parts."""
    return Node(word, tuple(parts), first, last, (word, *trees_of(parts)))


def row_of(word, parts, first, last):
    """A node whose tree is the tuple of the trees of its parts."""
    return Node(word, tuple(parts), first, last, trees_of(parts))


def leaf_node(node):
    """The node of an expression, constant or kind that is one name, number or string."""
    if node.word == "leaf":
        sort = node.parts[0]
        return Node(sort, (node,), node.first, node.last, (sort, node.tree))
    return node


def empty_list(first):
    return row_of("list", (), first, first - 1)


def without_width(node):
    """An argument without its width."""
    return node.parts[0] if node.word == "width" else node
