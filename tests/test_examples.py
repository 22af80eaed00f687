"""The examples of the document and those of README.md, to the letter."""

import doctest
import os
import unittest

SHAPES = """
>>> from sightsums.shapes import is_list, spread, total, word_of, words, worlds
>>> [worlds((2, 2)), words((2, 3), (1,)), words((2, 3), ()), word_of((2, 3, 2), (0, 2), (1, 2, 0)), spread((2, 2), 0, (1,), (5, 7)), is_list((2, 2), 3, (0,), (1, 3))]
[((0, 0), (0, 1), (1, 0), (1, 1)), ((0,), (1,), (2,)), ((),), (1, 0), (5, 7, 5, 7), False]
>>> total((2, 2), 2, ((0,), (1,), ()), ((0, 1), (0, 1), (1,)))
(1, 0, 0, 1)
"""

CUBES = """
>>> from sightsums.cubes import cube, family_holds, judge_family, least_family, part
>>> [cube((2, 2), 0, (1, 2, 3, 4), (0,), (1,)), cube((2, 2), 0, (1, 2, 3, 5), (0, 1), (1, 1)), part((2, 2), 5, (1, 2, 3, 4), (0,)), least_family((2, 2), 0, (1, 2, 3, 4)), least_family((2, 2), 2, (0, 0, 0, 1)), least_family((2, 2), 0, (0, 0, 0, 0)), least_family((2, 2), 0, (7, 7, 7, 7))]
[2, 1, (0, 2), ((0,), (1,)), ((0, 1),), (), ((),)]
>>> [judge_family((2, 2), 0, (0, 0, 0, 1), ((0,), (1,))), family_holds((2, 2), 0, (1, 2, 3, 4), ((0,), (1,)), ('lists', ((1, 3), (0, 1))))]
[('cube', (0, 1), (1, 1)), True]
"""


def failures(text, name):
    """What doctest prints of the examples that failed."""
    said = []
    found = doctest.DocTestParser().get_doctest(text, {}, name, None, 0)
    ran = doctest.DocTestRunner(verbose=False).run(found, out=said.append)
    return ran.attempted, "".join(said)


class Examples(unittest.TestCase):
    def check(self, text, name, many):
        attempted, said = failures(text, name)
        self.assertEqual(said, "")
        self.assertEqual(attempted, many)

    def test_shapes(self):
        self.check(SHAPES, "sightsums.shapes", 3)

    def test_cubes(self):
        self.check(CUBES, "sightsums.cubes", 3)

    def test_readme(self):
        path = os.path.join(os.path.dirname(os.path.abspath(__file__)), "..", "README.md")
        with open(path, encoding="utf-8") as file:
            text = file.read().replace("```", "")
        attempted, said = failures(text, "README.md")
        self.assertEqual(said, "")
        self.assertGreater(attempted, 0)


if __name__ == "__main__":
    unittest.main()
