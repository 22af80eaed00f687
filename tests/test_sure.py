"""What is sure of the entries [0.2, 0.3, 5.1, 5.2]: sightsums.sure."""

import collections
import itertools
import math
import unittest
from fractions import Fraction

import helper
from sightsums import sure
from sightsums.demands import judge_demand, small_system
from sightsums.errors import BadDemand, BadModulus, BadQuestion, BadScheme, BadShape, Barred
from sightsums.sure import answer, is_question, judge_question, question_holds
from sightsums.systems import judge_sure
from test_demands import BAD_DEMANDS, BAD_SCHEMES, DEMAND, PAIR, SCHEME, small_schemes, with_one_changed

RISE = ((0, (0,), -1), (0, (1,), 1))
# For SCHEME, whose lots are (0,), (0, 1) and (), over the shape (2, 3).
QUESTION = ((0, (1,), 5), (1, (0, 2), -7), (1, (1, 0), 0), (2, (), 9999))
QUESTIONS = (
    (), QUESTION, QUESTION[:1], QUESTION[1:], ((2, (), 0),), ((0, (0,), 1), (0, (1,), -1)), ((1, (1, 2), 10 ** 30),),
    ((0, (1,), 5), (1, (0, 0), 4), (1, (0, 1), 3), (1, (1, 0), 3), (2, (), 3)),
)
BAD_QUESTIONS = (
    None, 0, True, [], {}, "", "ask", ((),), (0, (0,), 1), ((0, (0,)),), ((0, (0,), 1, 1),), [(0, (0,), 1)],
    ([0, (0,), 1],), ((0, [0], 1),), ((3, (), 1),), ((-1, (), 1),), ((True, (0, 0), 1),), ((0, (2,), 1),),
    ((0, (-1,), 1),), ((0, (False,), 1),), ((0, (), 1),), ((0, (0, 0), 1),), ((2, (0,), 1),), ((1, (0, 3), 1),),
    ((0, (0,), True),), ((0, (0,), None),), ((0, (0,), "1"),), ((0, (0,), (1,)),), ((0, (0,), 1), None), (None,),
    ((0, (0,), 1), (0, (0,), 1)), ((0, (0,), 1), (0, (0,), 2)), ((0, (1,), 1), (0, (0,), 1)),
    ((1, (0, 0), 1), (0, (0,), 1)), ((0, (0,), 2), (0, (0,), 1)), ((0, (0,), 1), (2, (), 1), (1, (0, 0), 1)),
    ((0, (0,), 1), (0, (0,), None)), ((1, (0, 1), 1), (1, (0, 0), 1)), (("0", (0,), 1),), ((None, (0,), 1),),
    (((0,), (0,), 1),), ((0, "0", 1),), ((0, 0, 1),), ((0, None, 1),), (((0, (0,), 1),),), ((0, {}, 1),), ({},),
)
SHAPES = (
    (1,), (2,), (4,), (1, 1), (2, 2), (3, 2), (1, 4), (4, 4), (2, 2, 2), (3, 1, 2), (2, 3, 4), (1, 1, 1, 1),
    (2, 2, 2, 2),
    (1, 2, 1, 3), (3, 2, 2, 2),
)


def every_spot(shape, scheme):
    """The pairs of a list's position and a word over its lot."""
    return [(i, word) for i, lot in enumerate(scheme[0]) for word in helper.every_word(shape, lot)]


def some_question(rng, m, shape, scheme):
    """A question of any kind, or one that multiples of the sums tell, perhaps with one c changed by the modulus."""
    spots = every_spot(shape, scheme)
    if rng.randrange(3) == 0:
        asked = rng.sample(spots, min(len(spots), rng.randint(0, 6)))
        return tuple((i, word, rng.choice((0, 1, -1, rng.randint(-9999, 9999)))) for i, word in sorted(asked))
    given = dict.fromkeys(spots, 0)
    for _ in range(rng.randint(1, 3)):
        world, e, times = rng.choice(helper.every_world(shape)), rng.randrange(len(scheme[1])), rng.choice((1, -1, 2))
        for i, lot in enumerate(scheme[0]):
            given[i, tuple(world[place] for place in lot)] += times * scheme[1][e][i]
    shared = math.gcd(*given.values()) or 1
    times = Fraction(rng.choice((1, shared)), shared)
    spot = rng.choice(spots)
    given[spot] += rng.choice((0, 0, m if m < 9999 else 0, 1))
    return tuple((i, word, int(c * times)) for (i, word), c in sorted(given.items()) if int(c * times))[:40]


def some_questions(name, many=2):
    """Shapes, moduli, schemes and questions of all sizes within the limits."""
    rng = helper.seeded(name)
    for shape, m in itertools.product(SHAPES, helper.MODULI):
        for _ in range(many):
            high = rng.choice((1, 3, 12, 999))
            scheme = helper.some_scheme(rng, shape, rng.randint(1, 4), rng.randint(1, 3), high)
            yield rng, shape, m, scheme, some_question(rng, m, shape, scheme)


def zero_demand(shape, scheme):
    return ((0,) * len(helper.every_world(shape)),) * len(scheme[1])


class Questions(unittest.TestCase):
    def test_questions(self):
        for question in QUESTIONS:
            self.assertIs(is_question((2, 3), SCHEME, question), True, question)
            self.assertIs(is_question(shape=(2, 3), scheme=SCHEME, thing=question), True, question)
        for question in BAD_QUESTIONS:
            self.assertIs(is_question((2, 3), SCHEME, question), False, question)

    def test_spoiled_questions(self):
        for question in QUESTIONS:
            for thing in helper.spoiled(question):
                self.assertIs(is_question((2, 3), SCHEME, thing), self.is_right((2, 3), SCHEME, thing), thing)

    def is_right(self, shape, scheme, thing):
        if type(thing) is not tuple or any(type(item) is not tuple or len(item) != 3 for item in thing):
            return False
        if not all(helper.is_among(item[:2], every_spot(shape, scheme)) and type(item[2]) is int for item in thing):
            return False
        spots = [item[:2] for item in thing]
        return spots == sorted(spots) and len(spots) == len(set(spots))

    def test_any_value(self):
        for thing in (*helper.ODD_VALUES, *helper.ODD_CERTIFICATES):
            before = repr(thing)
            self.assertIs(is_question((2, 2), PAIR, thing), False, thing)
            self.assertIs(is_question((2, 2), PAIR, (thing,)), False, thing)
            self.assertIs(is_question((2, 2), PAIR, ((thing, thing, thing),)), False, thing)
            self.assertEqual(repr(thing), before)

    def test_errors(self):
        wrong = [(0, BadShape, helper.NO_SHAPES), (1, BadScheme, BAD_SCHEMES)]
        for thing in (QUESTION, None, [1]):
            helper.check_errors(self, is_question, ("shape", "scheme", "thing"), ((2, 3), SCHEME, thing), wrong)


class Judged(unittest.TestCase):
    def check(self, shape, m, scheme, question):
        found = judge_question(shape, m, scheme, question)
        given = (shape, m, scheme, question)
        self.assertTrue(helper.is_right_for_question(*given, found), (given, found))
        self.assertIs(question_holds(*given, found), True)
        return found

    def test_all_plans_tried(self):
        kinds = collections.Counter()
        for rng, shape, m, scheme in small_schemes("sure", 10):
            zero = zero_demand(shape, scheme)
            plans = helper.every_plan(shape, m, scheme)
            loose = [plan for plan in plans if helper.demand_by_search(shape, m, scheme, plan) == zero]
            for _ in range(8):
                question = some_question(rng, m, shape, scheme)
                told = not any(helper.asked_by_search(shape, m, scheme, question, plan) for plan in loose)
                found = self.check(shape, m, scheme, question)
                self.assertEqual(found[0] == "told", told, (shape, m, scheme, question))
                kinds[found[0]] += 1
        self.assertGreater(min(kinds["told"], kinds["open"]), 100)

    def test_certificates(self):
        kinds = collections.Counter()
        for _, shape, m, scheme, question in some_questions("certificates", 4):
            found = self.check(shape, m, scheme, question)
            kinds[m, found[0]] += 1
            self.assertEqual(judge_question(shape, m, scheme, question), found)
            self.assertEqual(judge_question(shape=shape, m=m, scheme=scheme, question=question), found)
        self.assertEqual(set(kinds), set(itertools.product(helper.MODULI, ("told", "open"))))
        self.assertGreater(min(kinds.values()), 5)

    def test_cube_by_cube(self):
        for _, shape, m, scheme, question in some_questions("cubes", 1):
            sure_everywhere = True
            for lot in helper.every_lot(shape):
                holders = [i for i, big in enumerate(scheme[0]) if set(lot) <= set(big)]
                for word in helper.every_word(shape, lot):
                    if 0 in word:
                        continue
                    rows, _ = small_system(shape, m, scheme, zero_demand(shape, scheme), lot, word)
                    weights = dict.fromkeys(holders, 0)
                    for i, own, c in question:
                        letters = dict(zip(scheme[0][i], own))
                        if i in weights and all(letters[place] == one for place, one in zip(lot, word)):
                            weights[i] += c
                    if judge_sure(m, rows, tuple(weights.values()))[0] == "open":
                        sure_everywhere = False
            self.assertEqual(judge_question(shape, m, scheme, question)[0] == "told", sure_everywhere)

    def test_whole_numbers_by_rank(self):
        kinds = set()
        for rng, shape, m, scheme, question in some_questions("rank", 6):
            if m == 0 and len(every_spot(shape, scheme)) <= 24:
                spots = every_spot(shape, scheme)
                rows = []
                for e, world in itertools.product(range(len(scheme[1])), helper.every_world(shape)):
                    given = helper.given_by_words(shape, scheme, ((world, e, (1, 1)),))
                    rows.append([given[spot] for spot in spots])
                asked = {(i, word): c for i, word, c in question}
                line = [asked.get(spot, 0) for spot in spots]
                told = helper.rank([*rows, line]) == helper.rank(rows)
                self.assertEqual(self.check(shape, m, scheme, question)[0] == "told", told)
                kinds.add(told)
        self.assertEqual(kinds, {True, False})

    def test_questions_that_ask_for_nothing(self):
        for shape, m in itertools.product(SHAPES, helper.MODULI):
            scheme = (((0,), ()), ((1, 2),))
            self.assertEqual(judge_question(shape, m, scheme, ()), ("told", ()))
            for question in (((0, (0,), 0),), ((0, (0,), m), (1, (), -3 * m)), ((1, (), 2 * m),)):
                self.assertEqual(self.check(shape, m, scheme, question)[0], "told")

    def test_by_hand(self):
        self.assertEqual(self.check((2, 2), 0, PAIR, RISE)[0], "told")
        self.assertEqual(self.check((2, 2), 0, PAIR, ((0, (0,), 1),))[0], "open")
        self.assertEqual(self.check((2, 2), 0, PAIR, ((0, (0,), 1), (1, (1,), 1))), ("told", (((0, 1), 0, (1, 1)),)))
        self.assertEqual(self.check((2, 2), 0, PAIR, ((0, (0,), 1), (1, (1,), 2)))[0], "open")
        self.assertEqual(self.check((2, 2), 2, PAIR, ((0, (0,), 1), (1, (1,), -1)))[0], "told")
        self.assertEqual(self.check((2, 2), 3, PAIR, ((0, (0,), 1), (1, (1,), -1)))[0], "open")
        double = (((0, 1),), ((2,),))
        ask = ((0, (0, 1), 1),)
        self.assertEqual(judge_question((2, 2), 0, double, ask), ("told", (((0, 1), 0, (1, 2)),)))
        self.assertEqual(judge_question((2, 2), 5, double, ask), ("told", (((0, 1), 0, (3, 1)),)))
        self.assertEqual(judge_question((2, 2), 4, double, ask)[0], "open")
        self.assertEqual(self.check((2, 2), 4, double, ((0, (0, 1), -6),))[0], "told")
        self.assertEqual(self.check((2, 2), 0, (((0, 1),), ((0,),)), ask)[0], "open")

    def test_ascending_triples(self):
        for _, shape, m, scheme, question in some_questions("ascending"):
            kind, triples = judge_question(shape, m, scheme, question)
            if kind == "told":
                self.assertEqual(list(triples), sorted(triples))
                self.assertEqual(len({triple[:2] for triple in triples}), len(triples))


class Held(unittest.TestCase):
    def test_spoiled_certificates(self):
        kinds = collections.Counter()
        for rng, shape, m, scheme, question in some_questions("spoiled"):
            found = judge_question(shape, m, scheme, question)
            kinds[found[0]] += 1
            given = (shape, m, scheme, question)
            helper.check_spoiled(self, question_holds, helper.is_right_for_question, given, found, rng, 20)
        self.assertGreater(min(kinds["told"], kinds["open"]), 50)

    def test_another_question(self):
        for rng, shape, m, scheme, question in some_questions("another", 1):
            found = judge_question(shape, m, scheme, question)
            for k, (i, word, c) in enumerate(question[:5]):
                other = (*question[:k], (i, word, c + rng.choice((1, -1, m))), *question[k + 1:])
                given = (shape, m, scheme, other)
                self.assertIs(question_holds(*given, found), helper.is_right_for_question(*given, found))

    def test_multiples_of_another_maker(self):
        kinds = collections.Counter()
        for rng, shape, m, scheme, _ in some_questions("maker"):
            worlds = helper.every_world(shape)
            spots = rng.sample(list(itertools.product(worlds, range(len(scheme[1])))), min(len(worlds), 3))
            low = math.lcm(2, *[abs(item) for sums in scheme[1] for item in sums if item]) if m == 0 else 1
            multiples = [Fraction(rng.randint(-9, 9), rng.choice((1, 2, low))) for _ in spots]
            if m:
                multiples = [Fraction(rng.randrange(m)) for _ in spots]
            triples = [(*spot, (one.numerator, one.denominator)) for spot, one in zip(sorted(spots), multiples)]
            given = helper.given_by_words(shape, scheme, triples)
            question = tuple((i, word, int(c)) for (i, word), c in sorted(given.items()))
            thing = ("told", tuple(triples))
            right = all(c.denominator == 1 for c in given.values())
            kinds[right] += 1
            self.assertIs(question_holds(shape, m, scheme, question, thing), right)
            if right:
                self.assertEqual(judge_question(shape, m, scheme, question)[0], "told")
        self.assertGreater(min(kinds[True], kinds[False]), 10)

    def test_given_to_entries_that_are_not_asked_for(self):
        given, triples = ((2, 2), 0, PAIR), (((0, 0), 0, (-1, 1)), ((1, 0), 0, (1, 1)))
        self.assertIs(question_holds(*given, RISE, ("told", triples)), True)
        other = (((0, 1), 0, (-1, 1)), ((1, 1), 0, (1, 1)))
        self.assertIs(question_holds(*given, RISE, ("told", other)), True)
        both = (((0, 0), 0, (-1, 2)), ((0, 1), 0, (-1, 2)), ((1, 0), 0, (1, 2)), ((1, 1), 0, (1, 2)))
        self.assertIs(question_holds(*given, RISE, ("told", both)), True)
        for wrong in (
            (((0, 0), 0, (-1, 1)), ((1, 1), 0, (1, 1))), triples[:1], triples[1:], (), triples[::-1],
            (*triples, triples[1]),
            (((0, 0), 0, (-1, 2)), ((0, 0), 0, (-1, 2)), ((1, 0), 0, (1, 1))), (*triples, ((1, 1), 0, (1, 1))),
            (((0, 0), 0, (-2, 2)), ((1, 0), 0, (1, 1))),
            (((0, 0), 0, (-1, 1)), ((0, 0), 0, (0, 1)), ((1, 0), 0, (1, 1))),
            (((0, 0), 0, (1, -1)), ((1, 0), 0, (1, 1))), (((0, 0), 1, (-1, 1)), ((1, 0), 1, (1, 1))),
            (((0, 0), -1, (-1, 1)), ((1, 0), -1, (1, 1))), (((0, 0), False, (-1, 1)), ((1, 0), 0, (1, 1))),
            (((0, 0), 0, -1), ((1, 0), 0, 1)), (((0, 0), 0, (-1, 1)), ((True, 0), 0, (1, 1))),
            (((0, 0), 0, (-1, 1)), ((1, 0), 0, (True, 1))), (((0, 0), 0, (-1, 1)), ([1, 0], 0, (1, 1))),
            (((0, 0), 0, (-1, 1)), [(1, 0), 0, (1, 1)]), (((0, 0), 0, (-1, 1)), ((1, 0), 0, [1, 1])), list(triples),
            (((0, 0), (-1, 1)), ((1, 0), (1, 1))), (((0, 0), 0, (-1, 1), 0), ((1, 0), 0, (1, 1))),
        ):
            self.assertIs(question_holds(*given, RISE, ("told", wrong)), False, wrong)
        zero = (*triples, ((1, 1), 0, (0, 1)))
        self.assertIs(question_holds(*given, RISE, ("told", zero)), True)

    def test_multiples_by_the_modulus(self):
        given = ((2, 2), 5, (((0, 1),), ((2,),)), ((0, (0, 1), -4),))
        for multiple, right in (((3, 1), True), ((-2, 1), False), ((8, 1), False), ((3, 2), False), ((2, 1), False),
                                ((1, 2), False), ((6, 2), False), ((3, True), False), ((3, -1), False), ((3,), False)):
            self.assertIs(question_holds(*given, ("told", (((0, 1), 0, multiple),))), right, multiple)
        given = ((2, 2), 0, *given[2:])
        for multiple, right in (((-2, 1), True), ((3, 1), False), ((-4, 2), False), ((2, -1), False), ((2, 1), False)):
            self.assertIs(question_holds(*given, ("told", (((0, 1), 0, multiple),))), right, multiple)

    def test_loose_plans_of_another_maker(self):
        for m, question, plan, right in (
            (0, ((0, (0,), 1),), ((1, 1), (-1, -1)), True), (0, ((0, (0,), 1),), ((-9, -9), (9, 9)), True),
            (0, ((0, (0,), 1),), ((1, 1), (-1, 1)), False), (0, ((0, (0,), 1),), ((0, 0), (0, 0)), False),
            (0, RISE, ((1, 1), (-1, -1)), False), (0, ((0, (0,), 1),), ((1, True), (-1, -1)), False),
            (0, ((0, (0,), 1),), ([1, 1], (-1, -1)), False), (0, ((0, (0,), 1),), ((1, 1),), False),
            (3, ((0, (0,), 1),), ((1, 1), (2, 2)), True), (3, ((0, (0,), 1),), ((1, 1), (-1, -1)), False),
            (3, ((0, (0,), 3),), ((1, 1), (2, 2)), False), (3, ((0, (0,), -1),), ((2, 2), (1, 1)), True),
            (3, ((0, (0,), 1), (1, (1,), 1)), ((2, 2), (1, 1)), False), (2, ((0, (0,), 1),), ((1, 1), (1, 1)), True),
            (4, ((0, (0,), 2),), ((2, 2), (2, 2)), False), (4, ((0, (0,), 2),), ((1, 1), (3, 3)), True),
        ):
            self.assertIs(question_holds((2, 2), m, PAIR, question, ("open", plan)), right, (m, question, plan))
            for thing in (["open", plan], ("open", plan, 0), ("told", plan), ("lists", plan), ("open", list(plan))):
                self.assertIs(question_holds((2, 2), m, PAIR, question, thing), False)

    def test_any_value(self):
        for given in (
            ((2, 2), 0, PAIR, RISE), ((2, 2), 2, PAIR, ((0, (0,), 1),)), ((1,), 0, (((0,),), ((1,),)), ((0, (0,), 7),)),
            ((2,), 0, (((0,), ()), ((2, 0), (0, 2))), ((1, (), 1),)), ((2, 2), 3, PAIR, ((0, (0,), 2), (0, (1,), 1))),
        ):
            odd = [*helper.ODD_VALUES, *helper.ODD_CERTIFICATES]
            odd += itertools.product(("told", "open", "lists"), helper.ODD_VALUES)
            odd += [("told", (thing,)) for thing in helper.ODD_VALUES]
            odd += [("told", ((thing, 0, (1, 1)),)) for thing in helper.ODD_VALUES]
            odd += [("told", (((0, 0), thing, thing),)) for thing in helper.ODD_VALUES]
            for thing in odd:
                before = repr(thing)
                right = helper.is_right_for_question(*given, thing)
                self.assertIs(question_holds(*given, thing), right, thing)
                self.assertEqual(repr(thing), before)

    def test_the_question_that_asks_for_nothing(self):
        for m in helper.MODULI:
            for thing, right in (
                (("told", ()), True), (("told", (((0, 0), 0, (0, 1)),)), True),
                (("told", (((0, 0), 0, (1, 1)),)), False),
                (("open", ((0, 0), (0, 0))), False), (("open", ((1, 1), (helper.made_by(m, -1),) * 2)), False),
                (("told",), False), (("told", []), False), (("told", (), ()), False), (("open", ()), False),
            ):
                self.assertIs(question_holds((2, 2), m, PAIR, (), thing), right, thing)
        self.assertIs(question_holds(shape=(2, 2), m=0, scheme=PAIR, question=(), thing=("told", ())), True)


class Answers(unittest.TestCase):
    def barred(self, shape, m, scheme, demand, question):
        """Check that the demand is barred, with a right bar."""
        error = helper.raised(answer, shape, m, scheme, demand, question)
        self.assertIs(type(error), Barred)
        self.assertEqual(list(vars(error)), ["certificate"])
        self.assertEqual(error.certificate[0], "bar")
        self.assertTrue(helper.is_right_for_demand(shape, m, scheme, demand, error.certificate))

    def test_all_plans_tried(self):
        kinds = collections.Counter()
        for rng, shape, m, scheme in small_schemes("answers", 8):
            plans = {}
            for plan in helper.every_plan(shape, m, scheme):
                plans.setdefault(helper.demand_by_search(shape, m, scheme, plan), []).append(plan)
            for demand in rng.sample(sorted(plans), min(len(plans), 4)):
                for _ in range(3):
                    question = some_question(rng, m, shape, scheme)
                    sums = {helper.asked_by_search(shape, m, scheme, question, plan) for plan in plans[demand]}
                    found = answer(shape, m, scheme, demand, question)
                    self.assertEqual(found, sums.pop() if len(sums) == 1 else None)
                    self.assertIn(type(found), (int, type(None)))
                    kinds[found is None] += 1
                    other = with_one_changed(rng, m, demand)
                    if other not in plans:
                        kinds["bar"] += 1
                        self.barred(shape, m, scheme, other, question)
        self.assertGreater(min(kinds[True], kinds[False], kinds["bar"]), 50)

    def test_answers(self):
        for rng, shape, m, scheme, question in some_questions("answers"):
            plan = helper.some_plan(rng, shape, m, scheme)
            demand = helper.demand_by_search(shape, m, scheme, plan)
            found = answer(shape, m, scheme, demand, question)
            if judge_question(shape, m, scheme, question)[0] == "told":
                self.assertEqual(found, helper.asked_by_search(shape, m, scheme, question, plan))
            else:
                self.assertIsNone(found)
            self.assertEqual(answer(shape=shape, m=m, scheme=scheme, demand=demand, question=question), found)
            other = with_one_changed(rng, m, demand)
            if judge_demand(shape, m, scheme, other)[0] == "bar":
                self.barred(shape, m, scheme, other, question)

    def test_by_hand(self):
        demand = ((1, 2, 3, 4),)
        self.assertEqual(answer((2, 2), 0, PAIR, demand, ((0, (0,), 1), (0, (1,), -1))), -2)
        self.assertEqual(answer((2, 2), 7, PAIR, demand, ((0, (0,), 1), (0, (1,), -1))), 5)
        self.assertEqual(answer((2, 2), 7, PAIR, demand, ((0, (0,), 9999), (1, (1,), 9999))), 9999 * 2 - 2856 * 7)
        self.assertEqual(answer((2, 2), 7, PAIR, demand, ((0, (0,), 7), (1, (0,), -70))), 0)
        self.assertIsNone(answer((2, 2), 7, PAIR, demand, ((0, (0,), 8), (1, (0,), -70))))
        self.assertEqual(answer((2, 2), 7, PAIR, demand, ()), 0)
        self.assertEqual(answer((2,), 0, (((0,),), ((2,),)), ((0, -4),), ((0, (1,), 3),)), -6)
        self.assertEqual(answer((2, 2), 0, PAIR, ((10 ** 30 - 1,) * 4,), ((0, (0,), -1), (1, (1,), -1))), 1 - 10 ** 30)

    def test_barred_even_if_nothing_is_asked_or_nothing_is_sure(self):
        for m in helper.MODULI:
            for question in ((), RISE, ((0, (0,), 1),)):
                self.barred((2, 2), m, PAIR, ((0, 0, 0, 1),), question)
        error = helper.raised(answer, (2, 2), 2, PAIR, ((0, 0, 0, 1),), RISE)
        self.assertEqual(error.certificate, ("bar", (0, 1), (1, 1), ((1, 2),)))


class Errors(unittest.TestCase):
    ahead = [(0, BadShape, helper.NO_SHAPES), (1, BadModulus, helper.NO_MODULI), (2, BadScheme, BAD_SCHEMES[:20])]
    names = ("shape", "m", "scheme")

    def test_questions(self):
        for m in (0, 5):
            given, wrong = ((2, 3), m, SCHEME, QUESTION), [*self.ahead, (3, BadQuestion, BAD_QUESTIONS)]
            helper.check_errors(self, judge_question, (*self.names, "question"), given, wrong)
            for thing in (("told", ()), None, [1]):
                helper.check_errors(self, question_holds, (*self.names, "question", "thing"), (*given, thing), wrong)

    def test_answer(self):
        self.assertEqual(judge_demand((2, 3), 5, SCHEME, DEMAND)[0], "lists")
        wrong = [*self.ahead, (3, BadDemand, BAD_DEMANDS), (4, BadQuestion, BAD_QUESTIONS[:30])]
        given = ((2, 3), 5, SCHEME, DEMAND, QUESTION)
        helper.check_errors(self, answer, (*self.names, "demand", "question"), given, wrong)

    def test_a_bad_question_comes_ahead_of_a_bar(self):
        demand = (DEMAND[0], (0, 0, 0, 0, 0, 1))
        self.assertIs(type(helper.raised(answer, (2, 3), 5, SCHEME, demand, QUESTION)), Barred)
        for question in BAD_QUESTIONS:
            error = helper.raised(answer, (2, 3), 5, SCHEME, demand, question)
            self.assertIs(type(error), BadQuestion, question)
            self.assertIs(error.thing, question)

    def test_any_value_that_is_none(self):
        for thing in (*helper.ODD_VALUES, *helper.ODD_CERTIFICATES):
            for function, given, kind in (
                (judge_question, ((2, 2), 0, PAIR, thing), BadQuestion),
                (judge_question, ((2, 2), 0, thing, ()), BadScheme),
                (question_holds, ((2, 2), 0, PAIR, thing, thing), BadQuestion),
                (is_question, ((2, 2), thing, ()), BadScheme),
                (answer, ((2, 2), 0, PAIR, ((0,) * 4,), thing), BadQuestion),
                (answer, ((2, 2), 0, PAIR, thing, ()), BadDemand),
            ):
                if (kind, thing) != (BadQuestion, ()):
                    error = helper.raised(function, *given)
                    self.assertIs(type(error), kind, thing)
                    self.assertIs(error.thing, thing)


class Interface(unittest.TestCase):
    def test_each_function_is_defined_here(self):
        for name in ("is_question", "judge_question", "question_holds", "answer"):
            self.assertEqual(getattr(sure, name).__module__, "sightsums.sure")


if __name__ == "__main__":
    unittest.main()
