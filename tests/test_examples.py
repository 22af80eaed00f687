"""The examples of the document and those of README.md, to the letter."""

import doctest
import os
import unittest

from sightsums.errors import Barred
from sightsums.sure import answer

SHAPES = """
>>> from sightsums.shapes import is_list, spread, total, word_of, words, worlds
>>> [worlds((2, 2)), words((2, 3), (1,)), words((2, 3), ()), word_of((2, 3, 2), (0, 2), (1, 2, 0)), spread((2, 2), 0, (1,), (5, 7)), is_list((2, 2), 3, (0,), (1, 3))]
[((0, 0), (0, 1), (1, 0), (1, 1)), ((0,), (1,), (2,)), ((),), (1, 0), (5, 7, 5, 7), False]
>>> total((2, 2), 2, ((0,), (1,), ()), ((0, 1), (0, 1), (1,)))
(1, 0, 0, 1)
"""

CUBES = """
>>> from sightsums.cubes import cube, family_holds, judge_family, least_family, part
>>> [cube((2, 2), 0, (1, 2, 3, 4), (0,), (1,)), cube((2, 2), 0, (1, 2, 3, 5), (0, 1), (1, 1)), part((2, 2), 5, (1, 2, 3, 4), (0,)), least_family((2, 2), 0, (1, 2, 3, 4)), least_family((2, 2), 2, (0, 0, 0, 1)), least_family((2, 2), 0, (0, 0, 0, 0)), least_family((2, 2), 0, (7, 7, 7, 7))]
[2, 1, (0, 2), ((0,), (1,)), ((0, 1),), (), ((),)]
>>> [judge_family((2, 2), 0, (0, 0, 0, 1), ((0,), (1,))), family_holds((2, 2), 0, (1, 2, 3, 4), ((0,), (1,)), ('lists', ((1, 3), (0, 1))))]
[('cube', (0, 1), (1, 1)), True]
"""

SYSTEMS = """
>>> from sightsums.systems import judge_sure, judge_system, loose_base, many_loose, sure_holds, system_holds
>>> [judge_system(0, ((2,),), (3,)), judge_system(4, ((2,),), (1,)), judge_system(5, ((2,),), (1,)), system_holds(0, ((2, 3),), (1,), ('solution', (-1, 1))), loose_base(4, ((2,),)), many_loose(4, ((2,),)), many_loose(0, ((1, -1),))]
[('row', ((1, 2),)), ('row', ((1, 2),)), ('solution', (3,)), True, (((2,), 2),), 2, 1]
>>> [judge_sure(0, ((2, -2),), (1, -1)), judge_sure(4, ((2,),), (1,)), judge_sure(5, ((2,),), (1,)), sure_holds(0, ((2, -2),), (1, 0), ('open', (1, 1)))]
[('told', ((1, 2),)), ('open', (2,)), ('told', ((3, 1),)), True]
"""

DEMANDS = """
>>> from sightsums.demands import demand_holds, demand_of, is_scheme, judge_demand, many_plans, small_system
>>> PAIR = (((0,), (1,)), ((1, 1),))
>>> [demand_of((2, 2), 2, PAIR, ((0, 1), (0, 1))), small_system((2, 2), 2, PAIR, ((0, 1, 1, 0),), (0,), (1,)), judge_demand((2, 2), 2, PAIR, ((0, 0, 0, 1),)), judge_demand((2, 2), 2, PAIR, ((0, 1, 1, 0),))[0], many_plans((2, 2), 2, PAIR), many_plans((2, 2), 0, PAIR)]
[((0, 1, 1, 0),), (((1,),), (1,)), ('bar', (0, 1), (1, 1), ((1, 2),)), 'lists', 2, 1]
>>> [demand_holds((2, 2), 0, (((0, 1),), ((2,),)), ((0, 2, 4, 6),), ('lists', ((0, 1, 2, 3),))), judge_demand((2,), 0, (((0,),), ((2,),)), ((0, 3),))]
[True, ('bar', (0,), (1,), ((1, 2),))]
"""

SURE = """
>>> from sightsums.sure import answer, is_question, judge_question, question_holds
>>> PAIR = (((0,), (1,)), ((1, 1),))
>>> RISE = ((0, (0,), -1), (0, (1,), 1))
>>> [is_question((2, 2), PAIR, RISE), answer((2, 2), 0, PAIR, ((1, 2, 3, 4),), RISE), answer((2, 2), 0, PAIR, ((1, 2, 3, 4),), ((0, (0,), 1),)), question_holds((2, 2), 0, PAIR, RISE, ('told', (((0, 0), 0, (-1, 1)), ((1, 0), 0, (1, 1))))), question_holds((2, 2), 0, PAIR, ((0, (0,), 1),), ('open', ((1, 1), (-1, -1))))]
[True, 2, None, True, True]
"""

PARTIAL = """
>>> from sightsums.partial import clash, does_settle, further_holds, judge_further, judge_told, settling, told_holds
>>> PAIR = (((0,), (1,)), ((1, 1),))
>>> THREE, FOUR = (((0, 0), (1,)), ((0, 1), (2,)), ((1, 0), (3,))), (((0, 0), (1,)), ((0, 1), (2,)), ((1, 0), (3,)), ((1, 1), (5,)))
>>> [judge_told((2, 2), 0, PAIR, FOUR)[0], told_holds((2, 2), 0, PAIR, FOUR, ('weights', (((1, 2),), ((1, 2),), ((1, 2),), ((1, 2),)))), clash((2, 2), 0, PAIR, FOUR), judge_further((2, 2), 0, PAIR, ((0, 0), (0, 1), (1, 0)), (1, 1), 0)]
['weights', True, (0, 1, 2, 3), ('told', (((-1, 1),), ((1, 1),), ((1, 1),)))]
>>> [does_settle((2, 2), 0, PAIR, ((0, 0), (0, 1), (1, 0))), settling((2, 2), 0, PAIR, ((0, 0), (1, 1))) in (((0, 0), (0, 1), (1, 1)), ((0, 0), (1, 0), (1, 1))), clash((2, 2), 0, PAIR, THREE)]
[True, True, None]
"""

HANDS = """
>>> from sightsums.hands import least_rounds, least_sights, needless, sights_after
>>> PAIR, AND = (((0,), (1,)), ((1, 1),)), ((0, 0, 0, 1),)
>>> [sights_after((2, 2), ((0,), (1,)), ((0, 1),), 1), least_rounds((2, 2), 2, PAIR, AND, ((0, 1),)), least_rounds((2, 2), 2, PAIR, AND, ()), needless((2, 2), 2, (((0, 1), (1,)), ((1, 1),)), AND), least_sights((2, 2), 2, (((0, 1), (1,)), ((1, 1),)), AND)]
[((0,), (0, 1)), 1, None, (1,), ((0, 1), ())]
"""

WATCHERS = """
>>> from sightsums.watchers import alike_holds, hidden_places, judge_alike, lots_alike, many_heard
>>> PAIR, ODD = (((0,), (1,)), ((1, 1),)), ((0, 1, 1, 0),)
>>> [judge_alike((2, 2), 2, PAIR, ODD, (0,), (0, 0), (0, 1)), judge_alike((2, 2), 2, PAIR, ODD, (0, 1), (0, 0), (0, 1)), lots_alike((2, 2), 2, PAIR, ODD, (0, 1)), hidden_places((2, 2), 2, PAIR, ODD, (0,)), hidden_places((2, 2), 2, PAIR, ODD, (0, 1)), many_heard((2, 2), 2, PAIR, (0, 1))]
[('alike', (1,)), ('sum', ((1, 2),)), (((0, 0), (1, 1)), ((0, 1), (1, 0))), (0, 1), (), 2]
"""


def failures(text, name):
    """What doctest prints of the examples that failed."""
    said = []
    found = doctest.DocTestParser().get_doctest(text, {}, name, None, 0)
    ran = doctest.DocTestRunner(verbose=False).run(found, out=said.append)
    return ran.attempted, "".join(said)


class Examples(unittest.TestCase):
    def check(self, text, name, many):
        attempted, said = failures(text, name)
        self.assertEqual(said, "")
        self.assertEqual(attempted, many)

    def test_shapes(self):
        self.check(SHAPES, "sightsums.shapes", 3)

    def test_cubes(self):
        self.check(CUBES, "sightsums.cubes", 3)

    def test_systems(self):
        self.check(SYSTEMS, "sightsums.systems", 3)

    def test_demands(self):
        self.check(DEMANDS, "sightsums.demands", 4)

    def test_sure(self):
        self.check(SURE, "sightsums.sure", 4)

    def test_partial(self):
        self.check(PARTIAL, "sightsums.partial", 5)

    def test_hands(self):
        self.check(HANDS, "sightsums.hands", 3)

    def test_watchers(self):
        self.check(WATCHERS, "sightsums.watchers", 3)

    def test_barred(self):
        pair = (((0,), (1,)), ((1, 1),))
        rise = ((0, (0,), -1), (0, (1,), 1))
        with self.assertRaises(Barred) as held:
            answer((2, 2), 2, pair, ((0, 0, 0, 1),), rise)
        self.assertEqual(held.exception.certificate, ("bar", (0, 1), (1, 1), ((1, 2),)))

    def test_readme(self):
        path = os.path.join(os.path.dirname(os.path.abspath(__file__)), "..", "README.md")
        with open(path, encoding="utf-8") as file:
            text = file.read().replace("```", "")
        attempted, said = failures(text, "README.md")
        self.assertEqual(said, "")
        self.assertGreater(attempted, 0)


if __name__ == "__main__":
    unittest.main()
