"""The example of section 1 of the document, as it stands there, and the one in README.md.

    >>> from stillmay.leagues import League
    >>> from stillmay.ways import best_place, sure
    >>> league = League(("ash", "elm", "oak"), (3, 1, 0), ("points", "wins"))
    >>> for pair in (("ash", "elm"), ("elm", "oak"), ("oak", "ash")):
    ...     league.add_game(pair[0], pair[1])
    0
    1
    2
    >>> league.enter(0, "home")
    >>> league.enter(2, "draw")
    >>> best_place(league, "elm"), sure(league, "ash", 2)
    (2, True)
"""

import doctest
import os
import unittest

README = os.path.join(os.path.dirname(os.path.dirname(os.path.abspath(__file__))), "README.md")


class ExampleTest(unittest.TestCase):
    def run_examples(self, text, least):
        examples = doctest.DocTestParser().get_doctest(text, {}, "example", None, 0)
        self.assertGreaterEqual(len(examples.examples), least)
        told = []
        failed = doctest.DocTestRunner(verbose=False).run(examples, out=told.append).failed
        self.assertEqual(0, failed, "".join(told))

    def test_section_1(self):
        self.run_examples(__doc__, 7)

    def test_readme(self):
        with open(README, encoding="ascii") as file:
            self.run_examples(file.read(), 7)


if __name__ == "__main__":
    unittest.main()
