"""The examples of the document, to the letter."""

import doctest
import unittest


class Examples(unittest.TestCase):

    def test_examples(self):
        told = []
        tests = doctest.DocTestParser()
        with open(__file__.replace("test_examples.py", "examples.txt"), encoding="utf-8") as file:
            test = tests.get_doctest(file.read(), {}, "examples.txt", "examples.txt", 0)
        runner = doctest.DocTestRunner(verbose=False)
        result = runner.run(test, out=told.append)
        self.assertEqual(result.failed, 0, "".join(told))
        self.assertGreater(result.attempted, 180)


if __name__ == "__main__":
    unittest.main()
