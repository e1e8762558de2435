"""What the grammar is read by, reckoned of its rows: tests.grammar_reckoning writes this file."""

# How many tokens each part has at least.
LEAST = {
    "Text": 6, "Head_": 0, "Names": 1, "Names_": 0, "Block": 2, "Labels_": 0, "Numbers": 1, "Numbers_": 0,
    "Constants_": 0, "Constants": 4, "MoreConstants_": 0, "Definition": 3, "Kinds_": 0, "Kinds": 4, "MoreKinds_": 0,
    "Naming": 3, "Variables_": 0, "Variables": 4, "MoreVariables_": 0, "Row": 3, "Routines_": 0, "Routine": 5,
    "Result_": 0, "Body": 1, "Parameters_": 0, "Parameters": 2, "MoreParameters_": 0, "Parameter": 2, "Constant": 1,
    "Whole": 1, "Kind": 1, "Stretch_": 0, "Unnamed": 1, "Packed_": 2, "Indices_": 0, "Fields": 0, "MoreFields_": 0,
    "Further_": 0, "Variant": 7, "Tag_": 0, "MoreArms_": 0, "NextArm_": 0, "Arm": 4, "ConstantList": 1,
    "ConstantList_": 0, "Statements": 0, "MoreStatements_": 0, "Statement": 0, "Plain": 0, "Named_": 0, "Arguments_": 0,
    "Argument": 1, "Width_": 0, "Else_": 0, "Way_": 1, "Choice": 2, "MoreChoices_": 0, "NextChoice_": 0, "MoreWith_": 0,
    "Variable": 1, "Ways_": 0, "MoreIndices_": 0, "Expression": 1, "Compared_": 0, "Sum": 1, "Sign_": 0,
    "MoreTerms_": 0, "Term": 1, "MoreFactors_": 0, "Factor": 1, "Meant_": 0, "Expressions_": 0, "Items_": 0,
    "MoreItems_": 0, "Item": 1, "Upto_": 0,
}

# With which tokens each part may begin, and how many it has then at least.
STARTS = {
    "Text": (("program", 6),), "Head_": (("(", 3),), "Names": (("name", 1),), "Names_": ((",", 2),),
    "Block": (("begin", 2), ("const", 7), ("function", 7), ("label", 5), ("procedure", 7), ("type", 7), ("var", 7)),
    "Labels_": (("label", 3),), "Numbers": (("number", 1),), "Numbers_": ((",", 2),), "Constants_": (("const", 5),),
    "Constants": (("name", 4),), "MoreConstants_": (("name", 4),), "Definition": (("name", 3),),
    "Kinds_": (("type", 5),), "Kinds": (("name", 4),), "MoreKinds_": (("name", 4),), "Naming": (("name", 3),),
    "Variables_": (("var", 5),), "Variables": (("name", 4),), "MoreVariables_": (("name", 4),), "Row": (("name", 3),),
    "Routines_": (("function", 5), ("procedure", 5)), "Routine": (("function", 5), ("procedure", 5)),
    "Result_": ((":", 2),),
    "Body": (
        ("begin", 2), ("const", 7), ("forward", 1), ("function", 7), ("label", 5), ("procedure", 7), ("type", 7),
        ("var", 7),
    ),
    "Parameters_": (("(", 4),), "Parameters": (("function", 4), ("name", 3), ("procedure", 2), ("var", 4)),
    "MoreParameters_": ((";", 3),), "Parameter": (("function", 4), ("name", 3), ("procedure", 2), ("var", 4)),
    "Constant": (("+", 2), ("-", 2), ("name", 1), ("number", 1), ("string", 1)), "Whole": (("name", 1), ("number", 1)),
    "Kind": (
        ("(", 3), ("+", 4), ("-", 4), ("^", 2), ("array", 6), ("file", 3), ("name", 1), ("number", 3), ("packed", 3),
        ("record", 2), ("set", 3), ("string", 3),
    ),
    "Stretch_": (("..", 2),), "Unnamed": (("+", 2), ("-", 2), ("number", 1), ("string", 1)),
    "Packed_": (("array", 6), ("record", 2)), "Indices_": ((",", 2),), "Fields": (("case", 7), ("name", 3)),
    "MoreFields_": ((";", 1),), "Further_": (("case", 7), ("name", 3)), "Variant": (("case", 7),), "Tag_": ((":", 2),),
    "MoreArms_": ((";", 1),), "NextArm_": (("+", 5), ("-", 5), ("name", 4), ("number", 4), ("string", 4)),
    "Arm": (("+", 5), ("-", 5), ("name", 4), ("number", 4), ("string", 4)),
    "ConstantList": (("+", 2), ("-", 2), ("name", 1), ("number", 1), ("string", 1)), "ConstantList_": ((",", 2),),
    "Statements": (
        (";", 1), ("begin", 2), ("case", 6), ("for", 7), ("goto", 2), ("if", 3), ("name", 1), ("number", 2),
        ("repeat", 3), ("while", 3), ("with", 3),
    ),
    "MoreStatements_": ((";", 1),),
    "Statement": (
        ("begin", 2), ("case", 6), ("for", 7), ("goto", 2), ("if", 3), ("name", 1), ("number", 2), ("repeat", 3),
        ("while", 3), ("with", 3),
    ),
    "Plain": (
        ("begin", 2), ("case", 6), ("for", 7), ("goto", 2), ("if", 3), ("name", 1), ("repeat", 3), ("while", 3),
        ("with", 3),
    ),
    "Named_": (("(", 3), (".", 4), (":=", 2), ("[", 5), ("^", 3)), "Arguments_": ((",", 2),),
    "Argument": (
        ("(", 3), ("+", 2), ("-", 2), ("[", 2), ("name", 1), ("nil", 1), ("not", 2), ("number", 1), ("string", 1),
    ),
    "Width_": ((":", 2),), "Else_": (("else", 1),), "Way_": (("downto", 1), ("to", 1)),
    "Choice": (("+", 3), ("-", 3), ("name", 2), ("number", 2), ("string", 2)), "MoreChoices_": ((";", 1),),
    "NextChoice_": (("+", 3), ("-", 3), ("name", 2), ("number", 2), ("string", 2)), "MoreWith_": ((",", 2),),
    "Variable": (("name", 1),), "Ways_": ((".", 2), ("[", 3), ("^", 1)), "MoreIndices_": ((",", 2),),
    "Expression": (
        ("(", 3), ("+", 2), ("-", 2), ("[", 2), ("name", 1), ("nil", 1), ("not", 2), ("number", 1), ("string", 1),
    ),
    "Compared_": (("<", 2), ("<=", 2), ("<>", 2), ("=", 2), (">", 2), (">=", 2), ("in", 2)),
    "Sum": (("(", 3), ("+", 2), ("-", 2), ("[", 2), ("name", 1), ("nil", 1), ("not", 2), ("number", 1), ("string", 1)),
    "Sign_": (("+", 1), ("-", 1)), "MoreTerms_": (("+", 2), ("-", 2), ("or", 2)),
    "Term": (("(", 3), ("[", 2), ("name", 1), ("nil", 1), ("not", 2), ("number", 1), ("string", 1)),
    "MoreFactors_": (("*", 2), ("and", 2), ("div", 2), ("mod", 2)),
    "Factor": (("(", 3), ("[", 2), ("name", 1), ("nil", 1), ("not", 2), ("number", 1), ("string", 1)),
    "Meant_": (("(", 3), (".", 2), ("[", 3), ("^", 1)), "Expressions_": ((",", 2),),
    "Items_": (
        ("(", 3), ("+", 2), ("-", 2), ("[", 2), ("name", 1), ("nil", 1), ("not", 2), ("number", 1), ("string", 1),
    ),
    "MoreItems_": ((",", 2),),
    "Item": (
        ("(", 3), ("+", 2), ("-", 2), ("[", 2), ("name", 1), ("nil", 1), ("not", 2), ("number", 1), ("string", 1),
    ),
    "Upto_": (("..", 2),),
}

# Of the parts that may have no tokens the numbers of their ways that have none.
EMPTY = {
    "Head_": 1, "Names_": 1, "Labels_": 1, "Numbers_": 1, "Constants_": 1, "MoreConstants_": 1, "Kinds_": 1,
    "MoreKinds_": 1, "Variables_": 1, "MoreVariables_": 1, "Routines_": 1, "Result_": 1, "Parameters_": 1,
    "MoreParameters_": 1, "Stretch_": 1, "Indices_": 1, "Fields": 2, "MoreFields_": 1, "Further_": 2, "Tag_": 1,
    "MoreArms_": 1, "NextArm_": 1, "ConstantList_": 1, "Statements": 0, "MoreStatements_": 1, "Statement": 1,
    "Plain": 0, "Named_": 2, "Arguments_": 1, "Width_": 1, "Else_": 1, "MoreChoices_": 1, "NextChoice_": 1,
    "MoreWith_": 1, "Ways_": 3, "MoreIndices_": 1, "Compared_": 7, "Sign_": 2, "MoreTerms_": 3, "MoreFactors_": 4,
    "Meant_": 1, "Expressions_": 1, "Items_": 1, "MoreItems_": 1, "Upto_": 1,
}
