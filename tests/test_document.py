"""Every example of the document, as it stands there: tests/document_examples.txt holds them in sequence."""

import builtins
import doctest
import os
import unittest

EXAMPLES = os.path.join(os.path.dirname(os.path.abspath(__file__)), "document_examples.txt")


class DocumentTest(unittest.TestCase):
    def tearDown(self):
        # What is shown last is left there by doctest.
        if hasattr(builtins, "_"):
            del builtins._

    def test_examples(self):
        found = doctest.testfile(EXAMPLES, module_relative=False)
        self.assertEqual(found.failed, 0)
        self.assertEqual(found.attempted, 55)


if __name__ == "__main__":
    unittest.main()
