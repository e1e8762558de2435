"""The grammar: what each part of a text may be made of, as rows of symbols.

A symbol is a token (a word, a sign, or name, number, string, forward) or a part, which begins with
a great letter. What a part that ends in _ is made of belongs to the part around it. A part has one
way at most for each token that it may begin with, and one at most that may have no tokens.
"""

TEXT_RULES = {
    "Text": (("program", "name", "Head_", ";", "Block", "."),),
    "Head_": (("(", "Names", ")"), ()),
    "Names": (("name", "Names_"),),
    "Names_": ((",", "name", "Names_"), ()),
    "Block": (("Labels_", "Constants_", "Kinds_", "Variables_", "Routines_", "begin", "Statements", "end"),),
    "Labels_": (("label", "Numbers", ";"), ()),
    "Numbers": (("number", "Numbers_"),),
    "Numbers_": ((",", "number", "Numbers_"), ()),
    "Constants_": (("const", "Constants"), ()),
    "Constants": (("Definition", ";", "MoreConstants_"),),
    "MoreConstants_": (("Definition", ";", "MoreConstants_"), ()),
    "Definition": (("name", "=", "Constant"),),
    "Kinds_": (("type", "Kinds"), ()),
    "Kinds": (("Naming", ";", "MoreKinds_"),),
    "MoreKinds_": (("Naming", ";", "MoreKinds_"), ()),
    "Naming": (("name", "=", "Kind"),),
    "Variables_": (("var", "Variables"), ()),
    "Variables": (("Row", ";", "MoreVariables_"),),
    "MoreVariables_": (("Row", ";", "MoreVariables_"), ()),
    "Row": (("Names", ":", "Kind"),),
    "Routines_": (("Routine", "Routines_"), ()),
    "Routine": (
        ("procedure", "name", "Parameters_", ";", "Body", ";"),
        ("function", "name", "Parameters_", "Result_", ";", "Body", ";"),
    ),
    "Result_": ((":", "name"), ()),
    "Body": (("forward",), ("Block",)),
    "Parameters_": (("(", "Parameters", ")"), ()),
    "Parameters": (("Parameter", "MoreParameters_"),),
    "MoreParameters_": ((";", "Parameter", "MoreParameters_"), ()),
    "Parameter": (
        ("Names", ":", "name"),
        ("var", "Names", ":", "name"),
        ("procedure", "name", "Parameters_"),
        ("function", "name", "Parameters_", ":", "name"),
    ),
    "Constant": (("number",), ("name",), ("string",), ("+", "Whole"), ("-", "Whole")),
    "Whole": (("number",), ("name",)),
}

KIND_RULES = {
    "Kind": (
        ("name", "Stretch_"),
        ("(", "Names", ")"),
        ("Unnamed", "..", "Constant"),
        ("packed", "Packed_"),
        ("array", "[", "Kind", "Indices_", "]", "of", "Kind"),
        ("record", "Fields", "end"),
        ("set", "of", "Kind"),
        ("file", "of", "Kind"),
        ("^", "name"),
    ),
    "Stretch_": (("..", "Constant"), ()),
    "Unnamed": (("number",), ("string",), ("+", "Whole"), ("-", "Whole")),
    "Packed_": (("array", "[", "Kind", "Indices_", "]", "of", "Kind"), ("record", "Fields", "end")),
    "Indices_": ((",", "Kind", "Indices_"), ()),
    "Fields": (("Row", "MoreFields_"), ("Variant",), ()),
    "MoreFields_": ((";", "Further_"), ()),
    "Further_": (("Row", "MoreFields_"), ("Variant",), ()),
    "Variant": (("case", "name", "Tag_", "of", "Arm", "MoreArms_"),),
    "Tag_": ((":", "name"), ()),
    # The ; behind the last arm is the one that may stand behind all fields.
    "MoreArms_": ((";", "NextArm_"), ()),
    "NextArm_": (("Arm", "MoreArms_"), ()),
    "Arm": (("ConstantList", ":", "(", "Fields", ")"),),
    "ConstantList": (("Constant", "ConstantList_"),),
    "ConstantList_": ((",", "Constant", "ConstantList_"), ()),
}

STATEMENT_RULES = {
    "Statements": (("Statement", "MoreStatements_"),),
    "MoreStatements_": ((";", "Statement", "MoreStatements_"), ()),
    "Statement": (("number", ":", "Plain"), ("Plain",)),
    "Plain": (
        (),
        ("name", "Named_"),
        ("goto", "number"),
        ("begin", "Statements", "end"),
        ("if", "Expression", "then", "Statement", "Else_"),
        ("while", "Expression", "do", "Statement"),
        ("repeat", "Statements", "until", "Expression"),
        ("for", "name", ":=", "Expression", "Way_", "Expression", "do", "Statement"),
        ("case", "Expression", "of", "Choice", "MoreChoices_", "end"),
        ("with", "Variable", "MoreWith_", "do", "Statement"),
    ),
    "Named_": (("(", "Argument", "Arguments_", ")"), ("Ways_", ":=", "Expression"), ()),
    "Arguments_": ((",", "Argument", "Arguments_"), ()),
    "Argument": (("Expression", "Width_"),),
    "Width_": ((":", "Expression"), ()),
    "Else_": (("else", "Statement"), ()),
    "Way_": (("to",), ("downto",)),
    "Choice": (("ConstantList", ":", "Statement"),),
    "MoreChoices_": ((";", "NextChoice_"), ()),
    "NextChoice_": (("Choice", "MoreChoices_"), ()),
    "MoreWith_": ((",", "Variable", "MoreWith_"), ()),
    "Variable": (("name", "Ways_"),),
    "Ways_": (("[", "Expression", "MoreIndices_", "]", "Ways_"), (".", "name", "Ways_"), ("^", "Ways_"), ()),
    "MoreIndices_": ((",", "Expression", "MoreIndices_"), ()),
}

EXPRESSION_RULES = {
    "Expression": (("Sum", "Compared_"),),
    "Compared_": (
        ("=", "Sum"), ("<>", "Sum"), ("<", "Sum"), (">", "Sum"), ("<=", "Sum"), (">=", "Sum"), ("in", "Sum"), (),
    ),
    "Sum": (("Sign_", "Term", "MoreTerms_"),),
    "Sign_": (("+",), ("-",), ()),
    "MoreTerms_": (("+", "Term", "MoreTerms_"), ("-", "Term", "MoreTerms_"), ("or", "Term", "MoreTerms_"), ()),
    "Term": (("Factor", "MoreFactors_"),),
    "MoreFactors_": (
        ("*", "Factor", "MoreFactors_"), ("div", "Factor", "MoreFactors_"), ("mod", "Factor", "MoreFactors_"),
        ("and", "Factor", "MoreFactors_"), (),
    ),
    "Factor": (
        ("number",), ("string",), ("nil",), ("name", "Meant_"), ("[", "Items_", "]"),
        ("(", "Expression", ")"), ("not", "Factor"),
    ),
    "Meant_": (("(", "Expression", "Expressions_", ")"), ("Ways_",)),
    "Expressions_": ((",", "Expression", "Expressions_"), ()),
    "Items_": (("Item", "MoreItems_"), ()),
    "MoreItems_": ((",", "Item", "MoreItems_"), ()),
    "Item": (("Expression", "Upto_"),),
    "Upto_": (("..", "Expression"), ()),
}


def all_rules():
    """The dict of all parts and the ways in which each may be made."""
    rules = dict(TEXT_RULES)
    rules.update(dict(KIND_RULES))
    rules.update(dict(STATEMENT_RULES))
    rules.update(dict(EXPRESSION_RULES))
    return rules
