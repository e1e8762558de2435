"""The interface: all that is offered stands in the file that the document names."""

import ast
import importlib
import os
import unittest

from tests.common import PACKAGE

# What is offered, by files.
INTERFACE = {
    "tokens": ["tokens"],
    "trees": ["tree", "beginning"],
    "printing": ["printed", "needed_brackets"],
    "program": ["Program"],
    "regions": ["names", "tellings", "routines", "jumps", "renamed"],
    "kinds": ["expressions", "same_kind", "agree"],
    "layouts": ["layout_of", "layouts"],
    "shown": ["shown"],
    "files": ["File"],
    "heap": ["Heap"],
    "running": ["run", "seen"],
    "settexts": ["set_names", "worth", "holds", "same_sets", "shows_same_sets"],
    "setworlds": ["follows", "shows_follows", "sure", "least_quarrels"],
    "cells": ["cells_of"],
    "units": ["Unit"],
    "words": ["words", "unit_of"],
    "joining": ["joined"],
    "cases": ["case_way"],
    "compiling": ["compiled"],
    "stops": ["stops", "numbers"],
    "checking": ["led", "checked", "shows_checked", "never_come"],
    "depths": [
        "work_needed", "shows_work_needed", "least_work", "calls", "never_called", "frames_needed", "shows_frames_needed"],
    "machine": ["Machine", "run_unit"],
    "claims": ["private", "ends_of"],
    "surely": ["claims", "all_claims", "closed", "sure_rows", "set_ways", "shows_set_ways"],
    "seams": ["Seam", "joined_seam"],
    "judging": ["judged"],
    "passes": ["bettered", "kept", "made_seam"],
    "showing": ["names_in", "shown_in"],
    "edits": ["edited", "anew"],
    "desk": ["Desk"],
    "journals": ["journal", "read_journal"],
}
PARAMETERS = {
    "tokens": "text", "tree": "text", "beginning": "text", "printed": "tree", "needed_brackets": "tree",
    "names": "program", "tellings": "program", "routines": "program", "jumps": "program",
    "renamed": "program line column name", "expressions": "program", "same_kind": "program one other",
    "agree": "program one other", "layout_of": "program place", "layouts": "program", "shown": "value width",
    "Program": "text", "File": "word contents", "Heap": "room",
    "run": "program inputs fuel", "seen": "program inputs number", "set_names": "text", "worth": "text world",
    "holds": "saying world", "same_sets": "one other", "shows_same_sets": "one other value",
    "follows": "sayings saying", "shows_follows": "sayings saying value", "sure": "sayings name",
    "least_quarrels": "sayings", "cells_of": "layout", "Unit": "text",
    "words": "unit", "unit_of": "integers", "joined": "units", "case_way": "numbers", "compiled": "program", "stops": "program",
    "numbers": "program",
    "led": "unit proc row shape", "checked": "unit", "shows_checked": "unit value", "never_come": "unit",
    "work_needed": "unit proc", "shows_work_needed": "unit proc value", "least_work": "unit", "calls": "unit",
    "never_called": "unit", "frames_needed": "unit", "shows_frames_needed": "unit value",
    "Machine": "unit inputs", "run_unit": "unit inputs fuel", "private": "unit proc", "ends_of": "unit",
    "claims": "unit proc row", "all_claims": "unit", "closed": "unit value", "sure_rows": "unit proc",
    "set_ways": "unit proc row name", "shows_set_ways": "unit proc row name value", "Seam": "text",
    "joined_seam": "one other", "judged": "left right seam", "bettered": "unit passes", "kept": "unit passes",
    "made_seam": "unit passes", "names_in": "program number", "shown_in": "program machine name",
    "edited": "program first last lines", "anew": "program other", "Desk": "program inputs", "journal": "desk",
    "read_journal": "text",
}
METHODS = {
    "File": {
        "reset": "", "rewrite": "", "at_end": "", "seen": "", "fill": "thing", "get": "", "put": "",
        "at_line_end": "", "read_sign": "", "read_line": "", "read_number": "", "write_number": "value width",
        "write_truth": "value width", "write_sign": "value width", "write_string": "value width", "write_line": "",
        "copied": "", "is_text": "", "standing": "", "all_things": "", "behind": "", "to_come": "", "looked": "",
    },
    "Heap": {
        "take": "size", "give": "number", "cell": "number offset", "is_held": "number", "copied": "",
        "room": "", "numbered": "", "pieces": "", "free": "",
    },
    "Unit": {"outer": "proc", "level": "proc", "code": "proc"},
    "Machine": {
        "files": "", "workspace": "", "step": "", "run": "most", "run_to": "proc row most", "back": "many",
        "contents": "frame number", "piece": "number", "linked": "frame", "copied": "", "at_line": "", "frames": "",
    },
    "Desk": {
        "mark": "line", "step": "", "over": "", "go": "", "back": "", "edit": "first last lines", "undo": "", "redo": "",
        "where": "", "ending": "", "value": "name", "callers": "", "written": "", "trial": "", "keep": "",
        "tried": "look", "copy": "", "program": "", "marked": "", "stop": "", "done": "",
    },
}


def parameters_of(function):
    return " ".join(arg.arg for arg in function.args.args if arg.arg != "self")


TEXT = "program p(output); type l = ^r; r = record n: integer; m: integer end; var a: integer; b: l;\nbegin a := 1; new(b); write(a) end."
UNIT = "layout l0 (n,^l0)\nproc p0 -\ntakes\ngives -\nnames n\nfiles\nwork 2\nplace 0 0\nnum 1\nstore\nleave\nend"


def given_values():
    """For each function, and each class but those without equality, arguments that it takes."""
    from begunended.desk import Desk
    from begunended.machine import Machine
    from begunended.program import Program
    from begunended.seams import Seam
    from begunended.trees import tree
    from begunended.units import Unit
    from begunended.words import words
    program, unit, seam = Program(TEXT), Unit(UNIT), Seam("proc p0\nmatch 0 0")
    desk = Desk(program, ())
    compiled_unit = importlib.import_module("begunended.compiling").compiled(program)
    return {
        "tokens": (TEXT,), "tree": (TEXT,), "beginning": (TEXT,), "printed": (tree(TEXT),), "needed_brackets": (tree(TEXT),),
        "Program": (TEXT,),
        "names": (program,), "tellings": (program,), "routines": (program,), "jumps": (program,), "renamed": (program, 1, 76, "c"),
        "expressions": (program,),
        "same_kind": (program, (1, 76), (1, 76)), "agree": (program, (1, 76), (1, 76)), "layout_of": (program, (1, 76)),
        "layouts": (program,), "shown": (3, 4),
        "File": ("text", "a"), "Heap": (9,), "run": (program, (), 9), "seen": (program, (), 1), "set_names": ("a",),
        "worth": ("a", (("a", (1,)),)),
        "holds": ("1 in a", (("a", (1,)),)), "same_sets": ("a", "b"), "shows_same_sets": ("a", "b", 3), "follows": ((), "a = a"),
        "shows_follows": ((), "a = a", 3),
        "sure": (("1 in a",), "a"), "least_quarrels": ((),), "cells_of": ("n",), "Unit": (UNIT,), "words": (unit,),
        "unit_of": (words(unit),), "joined": ((unit,),),
        "case_way": ((1, 2),), "compiled": (program,), "stops": (program,), "numbers": (program,), "led": (unit, "p0", 0, ()),
        "checked": (unit,),
        "shows_checked": (unit, 3), "never_come": (unit,), "work_needed": (unit, "p0"), "shows_work_needed": (unit, "p0", 3),
        "least_work": (unit,), "calls": (unit,),
        "never_called": (unit,), "frames_needed": (unit,), "shows_frames_needed": (unit, 3), "Machine": (unit, ()),
        "run_unit": (unit, (), 9), "private": (unit, "p0"),
        "ends_of": (unit,), "claims": (unit, "p0", 0), "all_claims": (unit,), "closed": (unit, 3), "sure_rows": (unit, "p0"),
        "set_ways": (unit, "p0", 0, 0),
        "shows_set_ways": (unit, "p0", 0, 0, 3), "Seam": (seam.text,), "joined_seam": (seam, seam), "judged": (unit, unit, seam),
        "bettered": (unit, ("pairs",)),
        "kept": (unit, ("pairs",)), "made_seam": (unit, ("pairs",)), "names_in": (program, 0),
        "shown_in": (program, Machine(compiled_unit, ()), "a"),
        "edited": (program, 1, 0, ()), "anew": (program, program), "Desk": (program, ()), "journal": (desk,),
        "read_journal": ("program 1\nprogram p; begin end.\ndeeds",)}


class InterfaceTest(unittest.TestCase):
    def test_arguments_by_position_and_by_name(self):
        given = given_values()
        for file, names in INTERFACE.items():
            module = importlib.import_module("begunended." + file)
            for name in names:
                function = getattr(module, name)
                words = PARAMETERS[name].split(" ")
                self.assertEqual(len(words), len(given[name]), name)
                self.assertEqual(function(*given[name]), function(**dict(zip(words, given[name]))), name)
                if len(words) > 1:
                    self.assertEqual(function(*given[name]), function(given[name][0], **dict(zip(words[1:], given[name][1:]))), name)

    def test_names_are_defined_in_their_files(self):
        for file, names in INTERFACE.items():
            with open(os.path.join(PACKAGE, file + ".py"), encoding="utf-8") as source:
                defined = {node.name: node for node in ast.parse(source.read()).body if hasattr(node, "name")}
            module = importlib.import_module("begunended." + file)
            for name in names:
                self.assertTrue(hasattr(module, name))
                node = defined[name]
                if isinstance(node, ast.ClassDef):
                    own = {part.name: part for part in node.body if isinstance(part, ast.FunctionDef)}
                    self.assertEqual(parameters_of(own["__init__"]), PARAMETERS[name])
                    for method, parameters in METHODS.get(name, {}).items():
                        self.assertEqual(parameters_of(own[method]), parameters, method)
                else:
                    self.assertEqual(parameters_of(node), PARAMETERS[name])


if __name__ == "__main__":
    unittest.main()
