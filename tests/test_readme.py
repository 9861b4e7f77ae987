"""The examples in README.md."""

import doctest
import pathlib
import unittest

README = pathlib.Path(__file__).resolve().parent.parent / "README.md"


class TestReadme(unittest.TestCase):
    def test_examples(self):
        lines = [line for line in README.read_text("utf-8").split("\n") if not line.startswith("```")]
        examples = doctest.DocTestParser().get_doctest("\n".join(lines), {}, "README", None, 0)
        results = doctest.DocTestRunner(verbose=False).run(examples)
        self.assertGreater(results.attempted, 10)
        self.assertEqual(results.failed, 0)


if __name__ == "__main__":
    unittest.main()
