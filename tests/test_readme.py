"""The examples of README.md, each with the answer that stands under it."""

import doctest
import os
import unittest

README = os.path.join(os.path.dirname(os.path.dirname(os.path.abspath(__file__))), "README.md")


class Readme(unittest.TestCase):
    def test_answers_are_those_of_the_program(self):
        with open(README, encoding="utf-8") as source:
            text = source.read().replace("```\n", "\n")
        examples = doctest.DocTestParser().get_doctest(text, {}, "README.md", README, 0)
        told = []
        runner = doctest.DocTestRunner(optionflags=doctest.IGNORE_EXCEPTION_DETAIL)
        runner.run(examples, out=told.append)
        self.assertEqual("".join(told), "")
        self.assertGreater(runner.tries, 30)


if __name__ == "__main__":
    unittest.main()
