"""Some worlds alone [0.2, 0.3, 6.1 to 6.4]: sightsums.partial."""

import collections
import itertools
import unittest
from fractions import Fraction

import helper
from sightsums import partial
from sightsums.demands import judge_demand
from sightsums.errors import BadModulus, BadNumber, BadScheme, BadShape, BadTold, BadWord
from sightsums.partial import clash, does_settle, further_holds, judge_further, judge_told, settling, told_holds
from sightsums.sure import answer
from test_demands import BAD_SCHEMES, BAD_WORDS, PAIR, SCHEME, SMALL, with_one_changed

# For SCHEME, whose lots are (0,), (0, 1) and (), over the shape (2, 3), and the modulus 5.
TOLD = (((0, 0), (1, 4)), ((0, 2), (0, 0)), ((1, 2), (3, 2)))
BAD_TOLD = (
    None, 0, True, "", "told", [], {}, {(0, 0): (1, 4)}, list(TOLD), (TOLD,), TOLD[0], ((0, 0), (0, 2)), ((),), (None,),
    ([(0, 0), (1, 4)],), (((0, 0), [1, 4]),), (([0, 0], (1, 4)),), (((0, 0),),), (((0, 0), (1, 4), 0),),
    (((0, 0), (1,)),), (((0, 0), (1, 4, 0)),), (((0, 0), (1, 5)),), (((0, 0), (-1, 4)),), (((0, 0), (True, 4)),),
    (((0, 0), (1, None)),), (((0, 0), (1, "4")),), (((0, 0), 1),), (((0, 0), None),), (((0, 3), (1, 4)),),
    (((2, 0), (1, 4)),), (((-1, 0), (1, 4)),), (((0, False), (1, 4)),), (((0,), (1, 4)),), (((0, 0, 0), (1, 4)),),
    ((None, (1, 4)),), (("00", (1, 4)),), (TOLD[1], TOLD[0]), (TOLD[0], TOLD[0]), (TOLD[0], ((0, 0), (1, 3))),
    (((0, 0), (1, 3)), TOLD[0]), (*TOLD, None), (*TOLD, TOLD[1]),
)
SOME = ((0, 1), (1, 0), (1, 2))
BAD_SOME = (
    None, 0, True, "", "some", [], {}, {(0, 1): 0}, list(SOME), (SOME,), (0, 1), ((0,),), ((0, 1, 0),), ((0, 3),),
    ((2, 0),), ((0, -1),), ((True, 0),), ([0, 1],), (None,), ("01",), (0,), ((1, 0), (0, 1)), ((0, 1), (0, 1)),
    (*SOME, SOME[1]), (*SOME, None), (((0, 1), (1, 4)),),
)
BAD_POSITIONS = (2, 3, -1, True, False, None, "0", (0,), [0], {}, (), 10 ** 30)
SHAPES = (
    (1,), (2,), (4,), (1, 1), (2, 2), (3, 2), (1, 4), (4, 4), (2, 2, 2), (3, 1, 2), (2, 3, 4), (1, 1, 1, 1),
    (2, 2, 2, 2), (1, 2, 1, 3), (3, 2, 2, 2), (2, 2, 1, 2),
)


def some_of(rng, shape, most=8):
    """Some worlds: none, a few, or as many as there may be."""
    worlds = helper.every_world(shape)
    most = min(len(worlds), most)
    return tuple(sorted(rng.sample(worlds, rng.choice((0, rng.randint(0, most), most)))))


def told_of(rng, shape, m, scheme, most=8):
    """Told worlds of a plan, such with one number changed, or any ones."""
    found = helper.numbers_by_search(shape, m, scheme, helper.some_plan(rng, shape, m, scheme))
    told = [(world, list(found[world])) for world in some_of(rng, shape, most)]
    style = rng.randrange(3)
    if told and style == 1:
        e = rng.randrange(len(scheme[1]))
        numbers = rng.choice(told)[1]
        numbers[e] = helper.made_by(m, numbers[e] + rng.choice((1, -1, 2, 6, m // 2 + 1)))
    if style == 2:
        told = [(world, [helper.some_number(rng, m) for _ in numbers]) for world, numbers in told]
    return tuple((world, tuple(numbers)) for world, numbers in told)


def some_cases(name, many=2, shapes=SHAPES):
    """Shapes, moduli and schemes of all sizes within the limits."""
    rng = helper.seeded(name)
    for shape, m in itertools.product(shapes, helper.MODULI):
        for _ in range(many):
            high = rng.choice((1, 3, 9, 9))
            yield rng, shape, m, helper.some_scheme(rng, shape, rng.randint(1, 4), rng.randint(1, 2), high)


def small_cases(name, many):
    """The same for which all plans can be tried, with the numbers that each plan has at the worlds."""
    rng = helper.seeded(name)
    for shape, m in SMALL:
        for _ in range(many):
            scheme = helper.some_scheme(rng, shape, rng.randint(1, 3), rng.randint(1, 2), rng.choice((1, 3, 9)))
            plans = 1
            for lot in scheme[0]:
                plans *= m ** len(helper.every_word(shape, lot))
            if plans <= 800:
                plans = helper.every_plan(shape, m, scheme)
                yield rng, shape, m, scheme, [helper.numbers_by_search(shape, m, scheme, plan) for plan in plans]


def is_keepable(found, told):
    return any(all(numbers[world] == one for world, one in told) for numbers in found)


def is_sure_by_search(found, some, world, e):
    """Whether the number is the same for all plans with the same numbers at some worlds."""
    groups = collections.defaultdict(set)
    for numbers in found:
        groups[tuple(numbers[told] for told in some)].add(numbers[world][e])
    return all(len(group) == 1 for group in groups.values())


def is_sure_by_rank(shape, scheme, some, world, e):
    """Whether, in whole numbers, fractions of the told worlds' sums give the number."""
    spots = sorted(helper.given_by_words(shape, scheme, ()))
    rows = []
    for told, k in [*itertools.product(some, range(len(scheme[1]))), (world, e)]:
        given = helper.given_by_words(shape, scheme, ((told, k, (1, 1)),))
        rows.append([given[spot] for spot in spots])
    return helper.rank(rows) == helper.rank(rows[:-1])


class Told(unittest.TestCase):
    def check(self, *given):
        found = judge_told(*given)
        self.assertTrue(helper.is_right_for_told(*given, found), (given, found))
        self.assertIs(told_holds(*given, found), True)
        return found

    def test_all_plans_tried(self):
        kinds = collections.Counter()
        for rng, shape, m, scheme, plans in small_cases("told", 8):
            for _ in range(10):
                told = told_of(rng, shape, m, scheme)
                found = self.check(shape, m, scheme, told)
                self.assertEqual(found[0] == "lists", is_keepable(plans, told), (shape, m, scheme, told))
                kinds[found[0]] += 1
        self.assertGreater(min(kinds["lists"], kinds["weights"]), 100)

    def test_certificates(self):
        kinds = collections.Counter()
        for rng, shape, m, scheme in some_cases("certificates of told worlds", 6):
            told = told_of(rng, shape, m, scheme)
            found = self.check(shape, m, scheme, told)
            kinds[m, found[0]] += 1
            self.assertEqual(judge_told(shape, m, scheme, told), found)
            self.assertEqual(judge_told(shape=shape, m=m, scheme=scheme, told=told), found)
        self.assertEqual(set(kinds), set(itertools.product(helper.MODULI, ("lists", "weights"))))
        self.assertGreater(min(kinds.values()), 5)

    def test_all_worlds_told(self):
        kinds = collections.Counter()
        for rng, shape, m, scheme in some_cases("all worlds told", 2):
            if len(helper.every_world(shape)) <= 8:
                demand = helper.demand_by_search(shape, m, scheme, helper.some_plan(rng, shape, m, scheme))
                demand = rng.choice((demand, with_one_changed(rng, m, demand)))
                told = tuple(zip(helper.every_world(shape), zip(*demand)))
                found, judged = self.check(shape, m, scheme, told), judge_demand(shape, m, scheme, demand)
                kinds[judged[0]] += 1
                self.assertEqual(found[0] == "lists", judged[0] == "lists")
                if judged[0] == "lists":
                    self.assertIs(told_holds(shape, m, scheme, told, judged), True)
                else:
                    weights = self.weights_of_a_bar(shape, scheme, judged)
                    self.assertIs(told_holds(shape, m, scheme, told, ("weights", weights)), True)
        self.assertGreater(min(kinds["lists"], kinds["bar"]), 30)

    def weights_of_a_bar(self, shape, scheme, bar):
        """The bar's fractions at each corner of the cube, less their wholes, and 0 at all other worlds."""
        _, lot, word, fractions = bar
        weights = {world: [Fraction(0)] * len(scheme[1]) for world in helper.every_world(shape)}
        for kept in itertools.product((0, 1), repeat=len(lot)):
            letters = {place: letter * one for place, letter, one in zip(lot, word, kept)}
            corner = tuple(letters.get(place, 0) for place in range(len(shape)))
            sign = (-1) ** (len(lot) - sum(kept))
            weights[corner] = [one + sign * Fraction(*new) for one, new in zip(weights[corner], fractions)]
        shares = [[one - one.numerator // one.denominator for one in row] for row in weights.values()]
        return tuple(tuple((one.numerator, one.denominator) for one in row) for row in shares)

    def test_no_told_worlds(self):
        for _, shape, m, scheme in some_cases("no told worlds", 1):
            self.assertEqual(self.check(shape, m, scheme, ())[0], "lists")
            self.assertIs(told_holds(shape, m, scheme, (), ("weights", ())), False)
            self.assertIsNone(clash(shape, m, scheme, ()))

    def test_multiples_0(self):
        for shape, m in itertools.product(SHAPES, helper.MODULI):
            world = helper.every_world(shape)[-1]
            scheme = ((tuple(range(len(shape))), ()), ((0, 0), (0, 0)))
            self.assertEqual(self.check(shape, m, scheme, ((world, (0, 0)),))[0], "lists")
            self.assertEqual(self.check(shape, m, scheme, ((world, (0, 1)),))[0], "weights")
            self.assertEqual(clash(shape, m, scheme, ((world, (1, 0)),)), (0,))

    def test_by_hand(self):
        nothing = (((),), ((2,),))
        told = (((0,), (4,)), ((1,), (4,)))
        self.assertEqual(self.check((2,), 0, nothing, told), ("lists", ((2,),)))
        self.assertEqual(self.check((2,), 0, nothing, (((0,), (4,)), ((1,), (6,))))[0], "weights")
        self.assertEqual(self.check((2,), 0, nothing, (((1,), (3,)),)), ("weights", (((1, 2),),)))
        self.assertEqual(self.check((2,), 4, nothing, (((1,), (3,)),)), ("weights", (((1, 2),),)))
        self.assertEqual(self.check((2,), 5, nothing, (((1,), (3,)),)), ("lists", ((4,),)))
        self.assertEqual(self.check((2, 2), 0, PAIR, (((0, 1), (-9,)), ((1, 0), (7,))))[0], "lists")
        two = (((0,),), ((3,), (5,)))
        self.assertEqual(self.check((1,), 0, two, (((0,), (6, 10)),)), ("lists", ((2,),)))
        self.assertEqual(self.check((1,), 0, two, (((0,), (6, 5)),))[0], "weights")


class HeldTold(unittest.TestCase):
    def test_spoiled_certificates(self):
        kinds = collections.Counter()
        for rng, shape, m, scheme in some_cases("spoiled told worlds"):
            given = (shape, m, scheme, told_of(rng, shape, m, scheme))
            found = judge_told(*given)
            kinds[found[0]] += 1
            helper.check_spoiled(self, told_holds, helper.is_right_for_told, given, found, rng, 20)
        self.assertGreater(min(kinds["lists"], kinds["weights"]), 50)

    def test_other_told_worlds(self):
        for rng, shape, m, scheme in some_cases("other told worlds", 1):
            told = told_of(rng, shape, m, scheme)
            found = judge_told(shape, m, scheme, told)
            for other in [told[:k] + told[k + 1:] for k in range(len(told))] + [told_of(rng, shape, m, scheme)]:
                given = (shape, m, scheme, other)
                self.assertIs(told_holds(*given, found), helper.is_right_for_told(*given, found))

    def test_weights_of_another_maker(self):
        kinds = collections.Counter()
        for rng, shape, m, scheme in some_cases("weights of another maker", 3):
            told = told_of(rng, shape, m, scheme)
            kind, found = judge_told(shape, m, scheme, told)
            if kind == "weights":
                times = rng.randint(2, 7)
                shares = [[Fraction(*one) * times for one in row] for row in found]
                shares = [[one - one.numerator // one.denominator for one in row] for row in shares]
                thing = ("weights", tuple(tuple((one.numerator, one.denominator) for one in row) for row in shares))
                right = helper.is_right_for_told(shape, m, scheme, told, thing)
                kinds[right] += 1
                self.assertIs(told_holds(shape, m, scheme, told, thing), right)
        self.assertGreater(min(kinds[True], kinds[False]), 20)

    def test_plans_of_another_maker(self):
        for rng, shape, m, scheme in some_cases("plans of another maker", 1):
            plan = helper.some_plan(rng, shape, m, scheme)
            found = helper.numbers_by_search(shape, m, scheme, plan)
            told = tuple((world, found[world]) for world in some_of(rng, shape))
            self.assertIs(told_holds(shape, m, scheme, told, ("lists", plan)), True)
            self.assertIs(told_holds(shape=shape, m=m, scheme=scheme, told=told, thing=("lists", plan)), True)
            self.assertEqual(judge_told(shape, m, scheme, told)[0], "lists")
            for thing in (["lists", plan], ("lists", plan, 0), ("weights", plan), ("open", plan), ("lists", [*plan])):
                self.assertIs(told_holds(shape, m, scheme, told, thing), False)

    def test_by_hand(self):
        square = tuple(zip(helper.every_world((2, 2)), ((1,), (2,), (3,), (5,))))
        half, third = (1, 2), (1, 3)
        for weights, right in (
            (((half,),) * 4, True), (((third,), ((2, 3)), (third,), (third,)), False),
            (((third,), ((2, 3),), ((2, 3),), (third,)), True), ((((0, 1),),) * 4, False), (((half,),) * 3, False),
            (((half,),) * 5, False), (((half, half),) * 4, False), ([(half,)] * 4, False), (([half],) * 4, False),
            (((half,), (half,), (half,), ((3, 2),)), False), (((half,), (half,), (half,), ((-1, 2),)), False),
            (((half,), (half,), (half,), ((2, 4),)), False), (((half,), (half,), (half,), ((1, -2),)), False),
            (((half,), (half,), (half,), ((True, 2),)), False), ((half,) * 4, False),
            (((half,), (half,), (third,), (half,)), False), ((((5, 12),), ((7, 12),), ((7, 12),), ((5, 12),)), True),
        ):
            self.assertIs(told_holds((2, 2), 0, PAIR, square, ("weights", weights)), right, weights)
        # By a modulus the bottoms divide it.
        thirds = ((third,), ((2, 3),), ((2, 3),), (third,))
        for m, right in ((6, True), (7, False), (8, False), (9, True), (10, False)):
            self.assertIs(told_holds((2, 2), m, PAIR, square, ("weights", thirds)), right, m)
        straight = tuple(zip(helper.every_world((2, 2)), ((1,), (2,), (3,), (4,))))
        self.assertIs(told_holds((2, 2), 0, PAIR, straight, ("weights", ((half,),) * 4)), False)

    def test_any_value(self):
        for given in (
            ((2, 2), 0, PAIR, tuple(zip(helper.every_world((2, 2)), ((1,), (2,), (3,), (5,))))), ((2, 2), 2, PAIR, ()),
            ((1,), 0, (((0,),), ((1,),)), (((0,), (7,)),)), ((2,), 4, (((),), ((2,),)), (((1,), (3,)),)),
        ):
            odd = [*helper.ODD_VALUES, *helper.ODD_CERTIFICATES]
            odd += itertools.product(("lists", "weights", "told"), helper.ODD_VALUES)
            odd += [("weights", (thing,) * len(given[3])) for thing in helper.ODD_VALUES]
            odd += [("weights", ((thing,),) * len(given[3])) for thing in helper.ODD_VALUES]
            for thing in odd:
                before = repr(thing)
                self.assertIs(told_holds(*given, thing), helper.is_right_for_told(*given, thing), thing)
                self.assertEqual(repr(thing), before)


class Clashes(unittest.TestCase):
    def test_all_plans_tried(self):
        sizes = collections.Counter()
        for rng, shape, m, scheme, plans in small_cases("clash", 8):
            for _ in range(8):
                told = told_of(rng, shape, m, scheme)
                found = clash(shape, m, scheme, told)
                self.assertEqual(found is None, is_keepable(plans, told))
                if found is not None:
                    some = [told[k] for k in found]
                    self.assertFalse(is_keepable(plans, some))
                    for k in range(len(some)):
                        self.assertTrue(is_keepable(plans, some[:k] + some[k + 1:]))
                    sizes[len(some)] += 1
        self.assertGreater(min(sizes[1], sizes[2], sizes[4]), 0)

    def test_certificates(self):
        sizes = collections.Counter()
        for rng, shape, m, scheme in some_cases("clash", 3):
            told = told_of(rng, shape, m, scheme)
            found = clash(shape, m, scheme, told)
            self.assertEqual(clash(shape=shape, m=m, scheme=scheme, told=told), found)
            kept = judge_told(shape, m, scheme, told)[0] == "lists"
            self.assertEqual(found is None, kept)
            if not kept:
                self.assertIs(type(found), tuple)
                self.assertEqual(sorted(set(found)), list(found))
                self.assertTrue(all(type(k) is int for k in found))
                some = tuple(told[k] for k in found)
                self.assertEqual(judge_told(shape, m, scheme, some)[0], "weights")
                for k in range(len(some)):
                    self.assertEqual(judge_told(shape, m, scheme, some[:k] + some[k + 1:])[0], "lists")
                sizes[len(some)] += 1
        self.assertGreater(min(sizes[1], sizes[2]), 10)

    def test_by_hand(self):
        nothing = (((),), ((2,),))
        self.assertEqual(clash((3,), 0, nothing, (((0,), (4,)), ((1,), (4,)), ((2,), (3,)))), (2,))
        self.assertEqual(clash((3,), 0, nothing, (((0,), (4,)), ((1,), (6,)), ((2,), (4,)))) in ((0, 1), (1, 2)), True)
        self.assertIn(clash((3,), 0, nothing, (((0,), (3,)), ((1,), (4,)), ((2,), (5,)))), ((0,), (2,)))
        self.assertIsNone(clash((3,), 0, nothing, (((0,), (4,)), ((1,), (4,)), ((2,), (4,)))))
        worlds = ((0, 0), (0, 1), (0, 2), (1, 0), (1, 1), (1, 2))
        told = tuple(zip(worlds, ((0,), (0,), (0,), (0,), (0,), (1,))))
        self.assertIn(clash((2, 3), 3, PAIR, told), ((0, 2, 3, 5), (1, 2, 4, 5)))


class Further(unittest.TestCase):
    def check(self, *given):
        found = judge_further(*given)
        self.assertTrue(helper.is_right_for_further(*given, found), (given, found))
        self.assertIs(further_holds(*given, found), True)
        return found

    def test_all_plans_tried(self):
        kinds = collections.Counter()
        for rng, shape, m, scheme, plans in small_cases("further", 8):
            for _ in range(10):
                some, world = some_of(rng, shape), rng.choice(helper.every_world(shape))
                e = rng.randrange(len(scheme[1]))
                found = self.check(shape, m, scheme, some, world, e)
                self.assertEqual(found[0] == "told", is_sure_by_search(plans, some, world, e))
                kinds[found[0]] += 1
        self.assertGreater(min(kinds["told"], kinds["open"]), 100)

    def test_certificates(self):
        kinds = collections.Counter()
        for rng, shape, m, scheme in some_cases("certificates of further worlds", 6):
            e = rng.randrange(len(scheme[1]))
            given = (shape, m, scheme, some_of(rng, shape), rng.choice(helper.every_world(shape)), e)
            found = self.check(*given)
            kinds[m, found[0]] += 1
            self.assertEqual(judge_further(*given), found)
            named = dict(zip(("shape", "m", "scheme", "some", "world", "e"), given))
            self.assertEqual(judge_further(**named), found)
            if m == 0 and len(helper.every_world(shape)) <= 8:
                self.assertEqual(found[0] == "told", is_sure_by_rank(shape, scheme, *given[3:]))
        self.assertEqual(set(kinds), set(itertools.product(helper.MODULI, ("told", "open"))))
        self.assertGreater(min(kinds.values()), 5)

    def test_a_world_that_is_told_itself(self):
        for rng, shape, m, scheme in some_cases("told itself", 1):
            some = some_of(rng, shape)
            for at, world in enumerate(some):
                e = rng.randrange(len(scheme[1]))
                self.assertEqual(self.check(shape, m, scheme, some, world, e)[0], "told")
                rows = [[(0, 1)] * len(scheme[1]) for _ in some]
                rows[at][e] = (1, 1)
                thing = ("told", tuple(tuple(row) for row in rows))
                self.assertIs(further_holds(shape, m, scheme, some, world, e, thing), True)

    def test_no_told_worlds(self):
        for rng, shape, m, scheme in some_cases("further without told ones", 1):
            e, world = rng.randrange(len(scheme[1])), rng.choice(helper.every_world(shape))
            found = self.check(shape, m, scheme, (), world, e)
            zero = all(helper.made_by(m, a) == 0 for a in scheme[1][e])
            self.assertEqual(found == ("told", ()), zero)
            self.assertIs(further_holds(shape, m, scheme, (), world, e, ("told", ())), zero)

    def test_told_numbers_are_met(self):
        """The told rows give the number from the told worlds' numbers, for each plan."""
        for rng, shape, m, scheme in some_cases("met", 2):
            some, world = some_of(rng, shape), rng.choice(helper.every_world(shape))
            for e in range(len(scheme[1])):
                kind, rows = judge_further(shape, m, scheme, some, world, e)
                if kind == "told":
                    found = helper.numbers_by_search(shape, m, scheme, helper.some_plan(rng, shape, m, scheme))
                    sums = [Fraction(*a) * b for row, one in zip(rows, some) for a, b in zip(row, found[one])]
                    self.assertEqual(helper.made_by(m, sum(sums) - found[world][e]), 0)

    def test_by_hand(self):
        three = ((0, 0), (0, 1), (1, 0))
        self.assertEqual(self.check((2, 2), 5, PAIR, three, (1, 1), 0), ("told", (((4, 1),), ((1, 1),), ((1, 1),))))
        self.assertEqual(self.check((2, 2), 0, PAIR, three[:2], (1, 1), 0)[0], "open")
        self.assertEqual(self.check((2,), 0, (((),), ((4,),)), ((0,),), (1,), 0), ("told", (((1, 1),),)))
        self.assertEqual(self.check((2,), 0, (((0,),), ((1,),)), ((0,),), (1,), 0)[0], "open")
        # Twice the one list tells the list itself in whole numbers and by 5, but not by 4.
        shape, scheme, others = (2, 2), (((0,), (1,)), ((2, 0), (1, 1))), (((0, 0), (1, 1)), (1, 0), 1)
        halves = ("told", (((-1, 2), (1, 1)), ((1, 2), (0, 1))))
        self.assertEqual(self.check(shape, 0, scheme, *others), halves)
        self.assertEqual(self.check(shape, 5, scheme, *others), ("told", (((2, 1), (1, 1)), ((3, 1), (0, 1)))))
        self.assertEqual(self.check(shape, 4, scheme, *others)[0], "open")
        self.assertIs(further_holds(shape, 4, scheme, *others, halves), False)


class HeldFurther(unittest.TestCase):
    def test_spoiled_certificates(self):
        kinds = collections.Counter()
        for rng, shape, m, scheme in some_cases("spoiled further worlds"):
            e = rng.randrange(len(scheme[1]))
            given = (shape, m, scheme, some_of(rng, shape), rng.choice(helper.every_world(shape)), e)
            found = judge_further(*given)
            kinds[found[0]] += 1
            helper.check_spoiled(self, further_holds, helper.is_right_for_further, given, found, rng, 20)
        self.assertGreater(min(kinds["told"], kinds["open"]), 50)

    def test_another_world(self):
        for rng, shape, m, scheme in some_cases("another further world", 1):
            some, world = some_of(rng, shape), rng.choice(helper.every_world(shape))
            found = judge_further(shape, m, scheme, some, world, 0)
            for other, e in itertools.product(helper.every_world(shape)[:6], range(len(scheme[1]))):
                given = (shape, m, scheme, some, other, e)
                self.assertIs(further_holds(*given, found), helper.is_right_for_further(*given, found))

    def test_rows_of_another_maker(self):
        every = tuple(helper.every_world((2, 2)))
        for m, rows, right in (
            (0, ((-1, 1), (1, 1), (1, 1), (0, 1)), True), (0, ((0, 1), (0, 1), (0, 1), (1, 1)), True),
            (0, ((-1, 2), (1, 2), (1, 2), (1, 2)), True), (0, ((1, 1), (-1, 1), (-1, 1), (2, 1)), True),
            (0, ((-1, 2), (1, 2), (1, 2), (1, 1)), False), (0, ((-2, 2), (1, 1), (1, 1), (0, 1)), False),
            (0, ((-1, 1), (1, 1), (1, 1), (0, 2)), False), (0, ((1, -1), (1, 1), (1, 1), (0, 1)), False),
            (5, ((4, 1), (1, 1), (1, 1), (0, 1)), True), (5, ((-1, 1), (1, 1), (1, 1), (0, 1)), False),
            (5, ((2, 1), (3, 1), (3, 1), (3, 1)), True), (5, ((9, 1), (1, 1), (1, 1), (0, 1)), False),
            (5, ((1, 2), (1, 2), (1, 2), (1, 2)), False), (2, ((1, 1), (1, 1), (1, 1), (0, 1)), True),
            (2, ((1, 1), (1, 1), (1, 1), (1, 1)), False), (2, ((True, 1), (1, 1), (1, 1), (0, 1)), False),
            (0, ((-1, 1), (1, 1), (1, 1)), False), (0, ((-1, 1), (1, 1), (1, 1), (0, 1), (0, 1)), False),
        ):
            thing = ("told", tuple((one,) for one in rows))
            self.assertIs(further_holds((2, 2), m, PAIR, every, (1, 1), 0, thing), right, (m, rows))
            for wrong in (("told", rows), ("told", list(thing[1])), list(thing), (*thing, 0), ("weights", thing[1]),
                          ("told", tuple([one] for one in rows)), ("told", tuple((one, (0, 1)) for one in rows))):
                self.assertIs(further_holds((2, 2), m, PAIR, every, (1, 1), 0, wrong), False)

    def test_plans_of_another_maker(self):
        given = ((2, 2), 0, PAIR, ((0, 0), (0, 1)), (1, 1), 0)
        for plan, right in (
            (((0, 1), (0, 0)), True), (((7, -9), (-7, -7)), True), (((0, 0), (0, 0)), False),
            (((5, 5), (-5, -5)), False), (((0, 1), (0, 1)), False), (((1, 1), (0, 0)), False),
            (((0, True), (0, 0)), False), (([0, 1], (0, 0)), False), (((0, 1),), False), (((0, 1, 0), (0, 0)), False),
        ):
            self.assertIs(further_holds(*given, ("open", plan)), right, plan)
            for thing in (["open", plan], ("open", plan, 0), ("told", plan), ("lists", plan), ("open", list(plan))):
                self.assertIs(further_holds(*given, thing), False)
        two = (((0,), (0,)), ((1, 0), (0, 1)))
        # The sum that is asked about has to be other than 0; another one is not enough.
        self.assertIs(further_holds((2,), 0, two, ((0,),), (1,), 0, ("open", ((0, 1), (0, 0)))), True)
        self.assertIs(further_holds((2,), 0, two, ((0,),), (1,), 1, ("open", ((0, 1), (0, 0)))), False)
        self.assertIs(further_holds((2,), 0, two, ((0,),), (1,), 0, ("open", ((0, 1), (1, 0)))), False)
        self.assertIs(further_holds((2,), 3, (((0,),), ((3,),)), (), (1,), 0, ("open", ((0, 1),))), False)
        self.assertIs(further_holds((2,), 3, (((0,),), ((2,),)), (), (1,), 0, ("open", ((0, 1),))), True)

    def test_any_value(self):
        for given in (
            ((2, 2), 0, PAIR, ((0, 0), (0, 1), (1, 0)), (1, 1), 0), ((2, 2), 2, PAIR, (), (1, 1), 0),
            ((1,), 0, (((0,),), ((1,),)), ((0,),), (0,), 0), ((2,), 4, (((),), ((2,), (0,))), (), (1,), 1),
        ):
            odd = [*helper.ODD_VALUES, *helper.ODD_CERTIFICATES]
            odd += itertools.product(("told", "open", "lists"), helper.ODD_VALUES)
            odd += [("told", (thing,) * len(given[3])) for thing in helper.ODD_VALUES]
            odd += [("told", ((thing,),) * len(given[3])) for thing in helper.ODD_VALUES]
            for thing in odd:
                before = repr(thing)
                self.assertIs(further_holds(*given, thing), helper.is_right_for_further(*given, thing), thing)
                self.assertEqual(repr(thing), before)


class Settled(unittest.TestCase):
    small = tuple(shape for shape in SHAPES if len(helper.every_world(shape)) <= 8)

    def test_all_plans_tried(self):
        kinds = collections.Counter()
        for rng, shape, m, scheme, plans in small_cases("settle", 5):
            every = list(itertools.product(helper.every_world(shape), range(len(scheme[1]))))
            for _ in range(4):
                some = some_of(rng, shape)
                settled = all(is_sure_by_search(plans, some, world, e) for world, e in every)
                found = does_settle(shape, m, scheme, some)
                self.assertIs(found, settled, (shape, m, scheme, some))
                kinds[found] += 1
            least = settling(shape, m, scheme, some)
            self.assert_least(some, least, lambda tried: all(is_sure_by_search(plans, tried, *one) for one in every))
        self.assertGreater(min(kinds.values()), 50)

    def assert_least(self, some, found, is_settled):
        """Check that what is found settles, and that no world beside those of some can be left out."""
        self.assertIs(type(found), tuple)
        self.assertEqual(sorted(set(found)), list(found))
        self.assertLessEqual(set(some), set(found))
        self.assertTrue(is_settled(found))
        for world in set(found) - set(some):
            self.assertFalse(is_settled(tuple(one for one in found if one != world)))

    def test_each_number_sure(self):
        kinds = collections.Counter()
        for rng, shape, m, scheme in some_cases("settled", 1, self.small):
            every = list(itertools.product(helper.every_world(shape), range(len(scheme[1]))))

            def is_settled(some):
                return all(judge_further(shape, m, scheme, some, *one)[0] == "told" for one in every)

            some = some_of(rng, shape)
            found = does_settle(shape, m, scheme, some)
            self.assertIs(found, is_settled(some))
            self.assertIs(does_settle(shape=shape, m=m, scheme=scheme, some=some), found)
            kinds[found] += 1
            least = settling(shape, m, scheme, some)
            self.assert_least(some, least, is_settled)
            self.assertEqual(settling(shape=shape, m=m, scheme=scheme, some=some), least)
            self.assertIs(does_settle(shape, m, scheme, least), True)
            if found:
                self.assertEqual(least, some)
        self.assertGreater(min(kinds.values()), 30)

    def test_edges(self):
        for shape, m in itertools.product(self.small, helper.MODULI):
            every, everything = tuple(helper.every_world(shape)), tuple(range(len(shape)))
            self.assertIs(does_settle(shape, m, ((everything,), ((1,),)), every), True)
            self.assertEqual(settling(shape, m, ((everything,), ((1,),)), ()), every)
            self.assertEqual(settling(shape, m, ((everything,), ((0,),)), ()), ())
            self.assertEqual(settling(shape, m, ((everything,), ((0,),)), every[:2]), every[:2])
            self.assertIs(does_settle(shape, m, ((everything,), ((0,),)), ()), True)
            self.assertIs(does_settle(shape, m, (((),), ((1,),)), ()), False)
            self.assertEqual(len(settling(shape, m, (((),), ((1,),)), ())), 1)
            self.assertEqual(settling(shape, m, (((),), ((1,),)), every[-1:]), every[-1:])
            if m:
                self.assertEqual(settling(shape, m, ((everything,), ((m,),)), ()), ())
        self.assertIs(does_settle((2, 2), 0, PAIR, ((0, 0), (0, 1))), False)
        self.assertEqual(len(settling((2, 2), 0, PAIR, ())), 3)
        self.assertEqual(len(settling((2, 4), 6, PAIR, ((0, 0), (0, 1), (1, 0), (1, 1)))), 6)


class Across(unittest.TestCase):
    def test_an_answer_is_the_demands_number(self):
        """The question that has the multiples of a sum at a world, answered, and told by that world."""
        for rng, shape, m, scheme in some_cases("answers", 1):
            demand = helper.demand_by_search(shape, m, scheme, helper.some_plan(rng, shape, m, scheme))
            at = rng.randrange(len(helper.every_world(shape)))
            world = helper.every_world(shape)[at]
            for e, sums in enumerate(scheme[1]):
                words = [tuple(world[place] for place in lot) for lot in scheme[0]]
                question = tuple((i, word, c) for i, (word, c) in enumerate(zip(words, sums)))
                self.assertEqual(answer(shape, m, scheme, demand, question), demand[e][at])


class Errors(unittest.TestCase):
    ahead = [(0, BadShape, helper.NO_SHAPES), (1, BadModulus, helper.NO_MODULI), (2, BadScheme, BAD_SCHEMES[:20])]
    names = ("shape", "m", "scheme")

    def test_told_worlds(self):
        wrong = [*self.ahead, (3, BadTold, BAD_TOLD)]
        given = ((2, 3), 5, SCHEME, TOLD)
        for function in (judge_told, clash):
            helper.check_errors(self, function, (*self.names, "told"), given, wrong)
        for thing in (("lists", ()), None, [1]):
            helper.check_errors(self, told_holds, (*self.names, "told", "thing"), (*given, thing), wrong)

    def test_numbers_of_told_worlds(self):
        for numbers, moduli in (
            ((5, 0), (0, 6, 10 ** 12)), ((-1, 0), (0,)), ((4, 4), (0, 5, 6, 10 ** 12)), ((10 ** 29, 0), (0,)),
            ((1, 1), (0, 2, 5, 6, 10 ** 12)),
        ):
            for m in (0, 2, 5, 6, 10 ** 12):
                told = (((0, 0), numbers),)
                error = helper.raised(judge_told, (2, 3), m, SCHEME, told)
                self.assertIs(type(error), type(None) if m in moduli else BadTold, (m, numbers))

    def test_further_worlds(self):
        names = (*self.names, "some", "world", "e")
        wrong = [
            *self.ahead, (3, BadTold, BAD_SOME), (4, BadWord, BAD_WORDS), (5, BadNumber, BAD_POSITIONS),
        ]
        given = ((2, 3), 5, SCHEME, SOME, (0, 2), 1)
        helper.check_errors(self, judge_further, names, given, wrong)
        for thing in (("told", ()), [1]):
            helper.check_errors(self, further_holds, (*names, "thing"), (*given, thing), wrong)

    def test_settling(self):
        for m in (0, 5):
            for function in (does_settle, settling):
                given, wrong = ((2, 3), m, SCHEME, SOME), [*self.ahead, (3, BadTold, BAD_SOME)]
                helper.check_errors(self, function, (*self.names, "some"), given, wrong)

    def test_any_value_that_is_none(self):
        for thing in (*helper.ODD_VALUES, *helper.ODD_CERTIFICATES):
            for function, given, kind in (
                (judge_told, ((2, 2), 0, PAIR, thing), BadTold), (clash, ((2, 2), 0, PAIR, thing), BadTold),
                (told_holds, ((2, 2), 0, PAIR, thing, thing), BadTold), (judge_told, ((2, 2), 0, thing, ()), BadScheme),
                (judge_further, ((2, 2), 0, PAIR, thing, (0, 0), 0), BadTold),
                (further_holds, ((2, 2), 0, PAIR, (), thing, 0, thing), BadWord),
                (judge_further, ((2, 2), 0, PAIR, (), (0, 0), thing), BadNumber),
                (does_settle, ((2, 2), 0, PAIR, thing), BadTold), (settling, ((2, 2), 0, PAIR, thing), BadTold),
            ):
                if (kind, repr(thing)) not in ((BadTold, "()"), (BadWord, "(0, 0)"), (BadWord, "(1, 0)")):
                    error = helper.raised(function, *given)
                    self.assertIs(type(error), kind, thing)
                    self.assertIs(error.thing, thing)


class Interface(unittest.TestCase):
    def test_each_function_is_defined_here(self):
        for name in ("judge_told", "told_holds", "clash", "judge_further", "further_holds", "does_settle", "settling"):
            self.assertEqual(getattr(partial, name).__module__, "sightsums.partial")


if __name__ == "__main__":
    unittest.main()
