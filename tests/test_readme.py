import doctest
import pathlib
import unittest

README = pathlib.Path(__file__).parent.parent / "README.md"


class ReadmeTest(unittest.TestCase):
    def test_the_examples(self):
        # An example ends where its fence does, which is no part of what is printed.
        text = README.read_text().replace("\n```\n", "\n\n")
        test = doctest.DocTestParser().get_doctest(text, {}, "README", str(README), 0)
        self.assertGreater(len(test.examples), 30)
        runner = doctest.DocTestRunner(verbose=False)
        self.maxDiff = None
        found = []
        runner.run(test, out=found.append)
        self.assertEqual("".join(found), "")
