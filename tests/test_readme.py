"""The examples in README.md do what they say."""

import doctest
import pathlib
import unittest

README = pathlib.Path(__file__).resolve().parent.parent / "README.md"


class ReadmeTest(unittest.TestCase):
    def test_examples(self):
        failed, tried = doctest.testfile(str(README), module_relative=False)
        self.assertEqual(0, failed)
        self.assertGreater(tried, 0)


if __name__ == "__main__":
    unittest.main()
