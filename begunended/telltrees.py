"""The nodes of all that tells names: programs, blocks, routines, parameters, constants, kinds.

Each function makes the node of a part of the grammar of what it is made of: the nodes of its parts
and tokens, in sequence.
"""

from begunended.nodes import Node, empty_list, is_leaf, leaf_node, node_of, row_of, trees_of


def list_node(children, first, last):
    """A row of things that are parted by commas or semicolons."""
    return row_of("list", children[::2], first, last)


def text_node(children, first, last):
    head = children[3] if is_leaf(children[2], "(") else empty_list(children[2].first)
    name, block = children[1], children[-2]
    return node_of("program", (name, head, block), first, last)


def block_node(children, first, last):
    """The parts of a block, those that are left out as empty lists, and its begin and end."""
    parts = [part_behind(children, word, first) for word in ("label", "const", "type", "var")]
    routines = [child for child in children if child.word == "procedure" or child.word == "function"]
    parts.append(row_of("list", routines, first, last))
    parts.append(children[-2])
    told = trees_of(parts)
    return Node("block", (*parts, children[-3], children[-1]), first, last, told)


def part_behind(children, word, first):
    """What stands behind this word in a block; an empty list if it does not stand there."""
    for at, child in enumerate(children):
        if is_leaf(child, word):
            return children[at + 1]
    return empty_list(first)


def telling_node(children, first, last):
    """A name, and what stands behind the sign behind it."""
    return row_of("telling", (children[0], children[2]), first, last)


def routine_node(children, first, last):
    """A routine; a parameter that is one likewise, without a body."""
    given = list(children[2:])
    parameters = empty_list(first)
    if given and is_leaf(given[0], "("):
        parameters = given[1]
        given = given[3:]
    result = None
    if given and is_leaf(given[0], ":"):
        result = given[1]
        given = given[2:]
    parts = [children[1], parameters, result]
    told = (children[0].tree, children[1].tree, parameters.tree, None if result is None else result.tree)
    if given:
        parts.append(given[1])
        told = (*told, given[1].tree)
    return Node(children[0].tree, tuple(parts), first, last, told)


def body_node(children, first, last):
    if children[0].word == "leaf":
        return Node("forward", (), first, last, "forward")
    return children[0]


def parameter_node(children, first, last):
    if is_leaf(children[0], "var"):
        return node_of("var", (children[1], children[3]), first, last)
    if children[0].word == "list":
        return node_of("value", (children[0], children[2]), first, last)
    return routine_node(children, first, last)


def constant_node(children, first, last):
    if is_leaf(children[0], "+"):
        return node_of("plus", (children[1],), first, last)
    if is_leaf(children[0], "-"):
        return node_of("minus", (children[1],), first, last)
    return leaf_node(children[0])


def whole_node(children, first, last):
    """What stands behind + or -."""
    return leaf_node(children[0])


def kind_node(children, first, last):
    head = children[0]
    if len(children) == 1:
        return leaf_node(head)
    if is_leaf(children[1], ".."):
        return node_of("from", (leaf_node(head), children[2]), first, last)
    if is_leaf(head, "("):
        return node_of("told", (children[1],), first, last)
    if is_leaf(head, "set") or is_leaf(head, "file"):
        return node_of(head.tree, (children[2],), first, last)
    if is_leaf(head, "^"):
        return node_of("pointer", (children[1],), first, last)
    if is_leaf(head, "packed"):
        return structure_node(children[1:], True, first, last)
    return structure_node(children, False, first, last)


def structure_node(children, is_packed, first, last):
    """An array or a record; the first of its parts is whether it is packed."""
    if is_leaf(children[0], "record"):
        fields = children[1]
        return Node("record", (is_packed, fields), first, last, ("record", is_packed, *fields.tree))
    indices = row_of("list", children[2:-3:2], first, last)
    member = children[-1]
    return Node("array", (is_packed, indices, member), first, last, ("array", is_packed, indices.tree, member.tree))


def fields_node(children, first, last):
    rows = row_of("list", [child for child in children if child.word == "telling"], first, last)
    variants = [child for child in children if child.word == "variant"]
    if not variants:
        return Node("fields", (rows, None), first, last, (rows.tree, None))
    return row_of("fields", (rows, variants[0]), first, last)


def variant_node(children, first, last):
    has_tag = is_leaf(children[2], ":")
    tag = children[1] if has_tag else None
    name = children[3] if has_tag else children[1]
    arms = row_of("list", [child for child in children if child.word == "arm"], first, last)
    told = (tag.tree if has_tag else None, name.tree, arms.tree)
    return Node("variant", (tag, name, arms), first, last, told)


def arm_node(children, first, last):
    constants, fields = children[0], children[3]
    return Node("arm", (constants, fields), first, last, (constants.tree, *fields.tree))


TELLING_MAKERS = {
    "Text": text_node, "Names": list_node, "Block": block_node, "Numbers": list_node,
    "Constants": list_node, "Definition": telling_node, "Kinds": list_node, "Naming": telling_node,
    "Variables": list_node, "Row": telling_node, "Routine": routine_node, "Body": body_node,
    "Parameters": list_node, "Parameter": parameter_node, "Constant": constant_node,
    "Whole": whole_node, "Unnamed": constant_node, "Kind": kind_node, "Fields": fields_node,
    "Variant": variant_node, "Arm": arm_node, "ConstantList": list_node, "Statements": list_node,
}
