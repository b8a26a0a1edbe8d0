"""The examples of README.md do what they show."""

import doctest
import pathlib
import unittest

README = pathlib.Path(__file__).parent.parent / "README.md"


class ReadmeTest(unittest.TestCase):

    def test_the_examples(self):
        text = README.read_text().replace("```", "")
        test = doctest.DocTestParser().get_doctest(text, {}, "README.md", str(README), 0)
        shown = []
        failed, tried = doctest.DocTestRunner(verbose=False).run(test, out=shown.append)
        self.assertEqual((failed, "".join(shown)), (0, ""))
        self.assertGreater(tried, 20)


if __name__ == "__main__":
    unittest.main()
