import doctest
import pathlib
import unittest

EXAMPLES = pathlib.Path(__file__).resolve().parent / "examples.txt"


class Examples(unittest.TestCase):
    def test_all_examples_of_the_document(self):
        result = doctest.testfile(str(EXAMPLES), module_relative=False)
        self.assertEqual(result.attempted, 58)
        self.assertEqual(result.failed, 0)


if __name__ == "__main__":
    unittest.main()
