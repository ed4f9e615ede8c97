"""The sessions in README.md give what they show."""

import doctest
import pathlib
import unittest

README = pathlib.Path(__file__).resolve().parent.parent / "README.md"


class ReadmeTests(unittest.TestCase):
    def test_sessions(self):
        session = README.read_text().replace("```\n", "\n")
        test = doctest.DocTestParser().get_doctest(session, {}, "README.md", str(README), 0)
        self.assertGreater(len(test.examples), 5)
        runner = doctest.DocTestRunner(verbose=False)
        self.assertEqual(runner.run(test).failed, 0)


if __name__ == "__main__":
    unittest.main()
