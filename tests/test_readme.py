import doctest
import unittest
from pathlib import Path

README = Path(__file__).resolve().parent.parent / "README.md"


class Readme(unittest.TestCase):
    def test_examples(self):
        # A fence would be taken for a part of the output above it.
        text = README.read_text(encoding="utf-8").replace("```", "")
        examples = doctest.DocTestParser().get_doctest(text, {}, "README.md", str(README), 0)
        failed, tried = doctest.DocTestRunner().run(examples)
        self.assertEqual(failed, 0)
        self.assertGreater(tried, 20)


if __name__ == "__main__":
    unittest.main()
