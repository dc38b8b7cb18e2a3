"""What README.md shows is what the program gives."""

import doctest
from pathlib import Path
import unittest

README = Path(__file__).parent.parent / "README.md"


class Readme(unittest.TestCase):
    def test_examples(self):
        failed, tried = doctest.testfile(str(README), module_relative=False, encoding="utf-8")
        self.assertEqual(0, failed)
        self.assertGreater(tried, 10)


if __name__ == "__main__":
    unittest.main()
