"""The tables by which texts are read are those that the grammar's rows tell."""

import os
import unittest

from begunended import grammartables, openings
from begunended.dotrees import DOING_MAKERS
from begunended.grammar import RULES
from begunended.grammartables import EMPTY
from begunended.reading import PASSING
from begunended.telltrees import TELLING_MAKERS
from tests.common import PACKAGE
from tests.grammar_reckoning import FILES, Beginnings, module, tables


class GrammarTest(unittest.TestCase):
    def test_tables_are_reckoned_of_the_rules(self):
        told = tables()
        for name in ("LEAST", "STARTS", "EMPTY"):
            self.assertEqual(getattr(grammartables, name), told[name])
        self.assertEqual(openings.OPENINGS, told["OPENINGS"])
        for file in FILES:
            with open(os.path.join(PACKAGE, file + ".py"), encoding="utf-8") as source:
                self.assertEqual(source.read(), module(file))

    def test_what_ends_in_a_line_and_has_no_tokens_leaves_nothing(self):
        for part in RULES:
            if part.endswith("_"):
                self.assertNotIn(part, TELLING_MAKERS)
                self.assertNotIn(part, DOING_MAKERS)
                if part in EMPTY:
                    # What it is made of then leaves nothing, either.
                    self.assertTrue(all(other.endswith("_") for other in RULES[part][EMPTY[part]]), part)

    def test_where_a_part_ends_ahead_of_its_token_it_is_opened_by_its_empty_way(self):
        beginnings = Beginnings()
        for (part, token), opening in openings.OPENINGS.items():
            if not opening:
                self.assertEqual(beginnings.ways[part][token], RULES[part][EMPTY[part]])

    def test_parts_that_pass_on_one_node_have_makers(self):
        for part in PASSING:
            self.assertIn(part, DOING_MAKERS)


if __name__ == "__main__":
    unittest.main()
