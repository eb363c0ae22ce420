"""Every example of the document, as it stands there, each by itself."""

import doctest
import pathlib
import unittest

EXAMPLES = pathlib.Path(__file__).resolve().parent / "examples.txt"
DOCUMENT = pathlib.Path(__file__).resolve().parent.parent.parent / "shared" / "DOC.md"


class TestExamples(unittest.TestCase):
    def test_each_by_itself(self):
        blocks = EXAMPLES.read_text().split("\n\n")[1:]
        self.assertEqual(len(blocks), 11)
        attempted = 0
        for number, block in enumerate(blocks):
            test = doctest.DocTestParser().get_doctest(block.strip("\n") + "\n", {}, f"example {number}", str(EXAMPLES), 0)
            told = doctest.DocTestRunner().run(test)
            self.assertEqual(told.failed, 0)
            attempted += told.attempted
        self.assertEqual(attempted, 74)

    @unittest.skipUnless(DOCUMENT.exists(), "the document is not here")
    def test_the_document(self):
        told = doctest.testfile(str(DOCUMENT), module_relative=False)
        self.assertEqual(told.failed, 0)
        self.assertGreater(told.attempted, 0)


if __name__ == "__main__":
    unittest.main()
