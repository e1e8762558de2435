"""The nodes of all that does: statements, places, expressions.

Each function makes the node of a part of the grammar of what it is made of: the nodes of its parts
and tokens, in sequence.
"""

from begunended.nodes import Node, empty_list, is_leaf, leaf_node, node_of, row_of


def statement_node(children, first, last):
    if len(children) == 1:
        return children[0]
    return node_of("label", (children[0], children[2]), first, last)


def plain_node(children, first, last):
    """A statement without a label."""
    if not children:
        return node_of("empty", (), first, last)
    head = children[0]
    if head.parts[0] == "name":
        return named_node(children, first, last)
    if is_leaf(head, "goto") or is_leaf(head, "begin"):
        return node_of(head.tree, (children[1],), first, last)
    if is_leaf(head, "while") or is_leaf(head, "repeat"):
        return node_of(head.tree, (children[1], children[3]), first, last)
    if is_leaf(head, "if"):
        return if_node(children, first, last)
    if is_leaf(head, "for"):
        return node_of("for", (children[1], children[3], children[4], children[5], children[7]), first, last)
    if is_leaf(head, "case"):
        choices = row_of("list", [child for child in children if child.word == "choice"], first, last)
        return node_of("case", (children[1], choices), first, last)
    variables = row_of("list", children[1:-2:2], first, last)
    return node_of("with", (variables, children[-1]), first, last)


def named_node(children, first, last):
    """A statement that begins with a name."""
    if len(children) == 3 and is_leaf(children[1], ":="):
        return node_of("put", (leaf_node(children[0]), children[2]), first, last)
    for at, child in enumerate(children):
        if is_leaf(child, ":="):
            place = variable_node(children[:at], first, child.first - 1)
            return node_of("put", (place, children[at + 1]), first, last)
    return call_node(children, first, last)


def call_node(children, first, last):
    """A name, perhaps with arguments in brackets."""
    given = row_of("list", children[2:-1:2], first, last) if len(children) > 1 else empty_list(first)
    return node_of("call", (children[0], given), first, last)


def if_node(children, first, last):
    parts = (children[1], children[3])
    if len(children) > 4:
        return node_of("if", (*parts, children[5]), first, last)
    return Node("if", (*parts, None), first, last, ("if", parts[0].tree, parts[1].tree, None))


def choice_node(children, first, last):
    return row_of("choice", (children[0], children[2]), first, last)


def argument_node(children, first, last):
    """An argument; of one with a width the colon is its last part."""
    if len(children) == 1:
        return children[0]
    node = node_of("width", (children[0], children[2]), first, last)
    node.parts = (*node.parts, children[1])
    return node


def item_node(children, first, last):
    if len(children) == 1:
        return children[0]
    return node_of("to", (children[0], children[2]), first, last)


def variable_node(children, first, last):
    """A name and all that stands behind it in brackets, behind a dot, or as ^."""
    node = leaf_node(children[0])
    bracket = None
    at = 1
    while at < len(children):
        sign = children[at]
        if is_leaf(sign, "^"):
            node = way_node("aim", (node,), sign, sign.last)
            at += 1
        elif is_leaf(sign, "."):
            node = way_node("field", (node, children[at + 1]), sign, children[at + 1].last)
            at += 2
        else:
            # v[e, f] is v[e][f], but has one bracket; v[e] ends ahead of the comma.
            bracket = sign if is_leaf(sign, "[") else bracket
            closing = children[at + 2]
            is_closed = is_leaf(closing, "]")
            end = closing.first if is_closed else closing.first - 1
            node = way_node("index", (node, children[at + 1]), bracket, end)
            at += 3 if is_closed else 2
    return node


def way_node(word, parts, sign, last):
    """A part of a place; the sign that stands behind that place is its last part."""
    node = node_of(word, parts, parts[0].first, last)
    node.parts = (*node.parts, sign)
    return node


def expression_node(children, first, last):
    return joined_node(children[0], children[1:], first, last)


def joined_node(left, rest, first, last):
    """What comes of a thing and a row of signs and further things behind it, done from the left."""
    node = left
    for at in range(0, len(rest), 2):
        end = rest[at + 2].first - 1 if at + 2 < len(rest) else last
        node = node_of(rest[at].tree, (node, rest[at + 1]), first, end)
    return node


def sum_node(children, first, last):
    head = children[0]
    if not is_leaf(head, "+") and not is_leaf(head, "-"):
        return joined_node(head, children[1:], first, last)
    rest = children[2:]
    end = rest[0].first - 1 if rest else last
    signed = node_of("plus" if head.tree == "+" else "minus", (children[1],), first, end)
    return joined_node(signed, rest, first, last)


def factor_node(children, first, last):
    head = children[0]
    if head.parts[0] == "number" or head.parts[0] == "string":
        return leaf_node(head)
    if head.parts[0] == "name":
        is_call = len(children) > 1 and is_leaf(children[1], "(")
        return call_node(children, first, last) if is_call else variable_node(children, first, last)
    if is_leaf(head, "nil"):
        return node_of("nil", (), first, last)
    if is_leaf(head, "not"):
        return node_of("not", (children[1],), first, last)
    if is_leaf(head, "("):
        # Brackets around a whole expression are no part of it.
        return children[1]
    items = row_of("list", children[1:-1:2], first, last)
    return node_of("set", (items,), first, last)


DOING_MAKERS = {
    "Statement": statement_node, "Plain": plain_node, "Argument": argument_node,
    "Choice": choice_node, "Variable": variable_node, "Expression": expression_node,
    "Sum": sum_node, "Term": expression_node, "Factor": factor_node, "Item": item_node,
}
