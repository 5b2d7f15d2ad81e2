"""The examples of README.md are true."""

import doctest
import unittest
from pathlib import Path


class ReadmeTest(unittest.TestCase):
    def test_examples(self):
        path = Path(__file__).resolve().parent.parent / "README.md"
        # Its fences end an answer as an empty line does.
        text = path.read_text(encoding="ascii").replace("```", "")
        found = doctest.DocTestParser().get_doctest(text, {}, "README.md", str(path), 0)
        result = doctest.DocTestRunner(verbose=False).run(found)
        self.assertEqual(result.failed, 0)
        self.assertGreater(result.attempted, 15)


if __name__ == "__main__":
    unittest.main()
