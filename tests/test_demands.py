"""Schemes, plans and demands at all worlds [0.2, 0.3, 4.1 to 4.3]: sightsums.demands."""

import collections
import itertools
import unittest

import helper
from sightsums import demands
from sightsums.cubes import part
from sightsums.errors import BadDemand, BadLot, BadModulus, BadPlan, BadScheme, BadShape, BadWord
from sightsums.demands import demand_holds, demand_of, is_scheme, judge_demand, many_plans, small_system
from sightsums.shapes import total

PAIR = (((0,), (1,)), ((1, 1),))
# For the shape (2, 3).
SCHEME = (((0,), (0, 1), ()), ((1, -2, 3), (0, 5, 7)))
SCHEMES = (
    PAIR, SCHEME, (((),), ((0,),)), (((),) * 6, ((1, 2, 3, 4, 5, 6),) * 3), (((0, 1),), ((-999,),)),
    (((1,), (1,), (0, 1), (0,)), ((1, 0, -1, 10 ** 40), (0, 0, 0, 0))),
)
BAD_SCHEMES = (
    (), None, 0, True, "ab", [], {}, ((0,), (1,)), [((0,),), ((1,),)], (((0,),), ((1,),), ()), (((0,),),),
    ((), ()), ((), ((),)), (((0,),), ()), (((0,),), ((),)), (((0,),), ((1, 1),)), (((0,), (1,)), ((1,),)),
    (((0,),) * 7, ((1,) * 7,)), (((0,),), ((1,),) * 4), ([(0,)], ((1,),)), (((0,),), [(1,)]), (((0,),), ([1],)),
    (([0],), ((1,),)), (((0,),), ((True,),)), (((False,),), ((1,),)), (((2,),), ((1,),)), (((-1,),), ((1,),)),
    (((1, 0),), ((1,),)), (((0, 0),), ((1,),)), ((0,), ((1,),)), (((0,),), (1,)), (((0,),), (None,)),
    (((0,),), (("1",),)), ((None,), ((1,),)), (((0,), (1,)), ((1, 1), (1,))), (((0,), (1,)), ((1, 1), (1, None))),
    ({0: (0,)}, ((1,),)), (((0,),), {0: (1,)}), ("a", "b"), (((0,),), ((1, 2, 3),)), (((0,), 1), ((1, 1),)),
)
# For SCHEME and the modulus 5.
PLAN = ((0, 1), (0, 1, 2, 3, 4, 0), (3,))
BAD_PLANS = (
    (), None, 0, [], {}, "plan", PLAN[:2], (*PLAN, (0,)), list(PLAN), ([0, 1], *PLAN[1:]), ((0, 5), *PLAN[1:]),
    ((0, -1), *PLAN[1:]), ((0, True), *PLAN[1:]), ((0,), *PLAN[1:]), ((0, 1, 0), *PLAN[1:]), (*PLAN[:2], ()),
    (*PLAN[:2], 3), (*PLAN[:2], (None,)), (*PLAN[:2], ("3",)), (*PLAN[:2], ((3,),)), (PLAN[1], PLAN[0], PLAN[2]),
    (PLAN,),
)
DEMAND = ((0, 1, 2, 3, 4, 0), (1, 1, 1, 1, 1, 1))
BAD_DEMANDS = (
    (), None, 0, [], {}, "demand", DEMAND[:1], (*DEMAND, DEMAND[0]), list(DEMAND), (list(DEMAND[0]), DEMAND[1]),
    (DEMAND[0], DEMAND[1][1:]), (DEMAND[0], (*DEMAND[1], 1)), (DEMAND[0], (1, 1, 1, 1, 1, 5)), DEMAND[0],
    (DEMAND[0], (1, 1, 1, 1, 1, -1)), (DEMAND[0], (1, 1, 1, 1, 1, True)), (DEMAND[0], (1, 1, 1, 1, 1, None)),
    (DEMAND[0], None), (DEMAND[0], ()), (DEMAND[0], (1, 1, 1, 1, 1, (1,))), (DEMAND[0], "111111"), (DEMAND,),
)
BAD_LOTS = ((1, 0), (0, 0), (2,), (-1,), (True,), (False, 1), [0], [], 0, None, "0", {}, ((0,),), (0, None))
BAD_WORDS = ((), (0,), (0, 0, 0), (2, 0), (0, 3), (-1, 0), (True, 0), (0, False), [0, 0], None, "00", 0, {}, ((0,), 0))
SMALL = (
    ((2, 2), 2), ((2, 2), 3), ((2, 2), 4), ((3, 2), 2), ((2, 1), 5), ((3,), 4), ((3,), 6), ((2, 2, 2), 2), ((2,), 6),
    ((1, 2), 6), ((1, 1), 9), ((1, 2, 2), 2), ((4,), 3), ((2, 1, 2, 1), 3),
)
MOST_SEARCHED = 3000


def small_schemes(name, many):
    """Shapes, moduli and schemes for which all plans can be tried."""
    rng = helper.seeded(name)
    for shape, m in SMALL:
        for _ in range(many):
            scheme = helper.some_scheme(rng, shape, rng.randint(1, 3), rng.randint(1, 2), rng.choice((1, 3, m, 20)))
            size = 1
            for lot in scheme[0]:
                size *= m ** len(helper.every_word(shape, lot))
            if size <= MOST_SEARCHED:
                yield rng, shape, m, scheme


def some_schemes(name, many=2):
    """Shapes, moduli and schemes of all sizes within the limits."""
    rng = helper.seeded(name)
    for shape, m in itertools.product(helper.SHAPES, helper.MODULI):
        for _ in range(many):
            high = rng.choice((1, 3, 12, 999))
            yield rng, shape, m, helper.some_scheme(rng, shape, rng.randint(1, 6), rng.randint(1, 3), high)


def with_one_changed(rng, m, demand):
    """The demand with one entry changed."""
    e = rng.randrange(len(demand))
    at = rng.randrange(len(demand[e]))
    entry = helper.made_by(m, demand[e][at] + rng.choice((1, -1, 2, 6, m // 2 + 1)))
    return (*demand[:e], (*demand[e][:at], entry, *demand[e][at + 1:]), *demand[e + 1:])


class Schemes(unittest.TestCase):
    def test_schemes(self):
        for scheme in SCHEMES:
            self.assertIs(is_scheme((2, 3), scheme), True, scheme)
        for scheme in BAD_SCHEMES:
            self.assertIs(is_scheme((2, 3), scheme), False, scheme)

    def test_how_many(self):
        for lists, sums in itertools.product(range(9), range(6)):
            scheme = (((),) * lists, ((1,) * lists,) * sums)
            self.assertIs(is_scheme((1,), scheme), 1 <= lists <= 6 and 1 <= sums <= 3)

    def test_lots_of_the_shape(self):
        for shape in helper.SHAPES:
            for lot in helper.every_lot((1, 1, 1, 1)):
                self.assertIs(is_scheme(shape, ((lot,), ((1,),))), lot in helper.every_lot(shape))

    def test_spoiled_schemes(self):
        for scheme in SCHEMES[:3]:
            for thing in helper.spoiled(scheme):
                self.assertIs(is_scheme((2, 3), thing), self.is_scheme_by_words((2, 3), thing), thing)

    def is_scheme_by_words(self, shape, thing):
        if type(thing) is not tuple or len(thing) != 2 or any(type(item) is not tuple for item in thing):
            return False
        lots, sums = thing
        if not 1 <= len(lots) <= 6 or not all(helper.is_among(lot, helper.every_lot(shape)) for lot in lots):
            return False
        if not 1 <= len(sums) <= 3:
            return False
        return all(helper.is_row_of_numbers(0, len(lots), multiples) for multiples in sums)

    def test_any_value(self):
        for thing in (*helper.ODD_VALUES, *helper.ODD_CERTIFICATES):
            before = repr(thing)
            self.assertIs(is_scheme((2, 2), thing), False, thing)
            self.assertIs(is_scheme(shape=(2, 2), thing=thing), False, thing)
            self.assertIs(is_scheme((2, 2), (thing, thing)), False, thing)
            self.assertEqual(repr(thing), before)

    def test_bad_shapes(self):
        for thing in (PAIR, None, [1]):
            helper.check_errors(self, is_scheme, ("shape", "thing"), ((2, 3), thing), [(0, BadShape, helper.NO_SHAPES)])


class DemandOf(unittest.TestCase):
    def test_demand_of(self):
        for rng, shape, m, scheme in some_schemes("demand of"):
            plan = helper.some_plan(rng, shape, m, scheme)
            found = demand_of(shape, m, scheme, plan)
            self.assertEqual(found, helper.demand_by_search(shape, m, scheme, plan))
            self.assertIs(type(found), tuple)
            self.assertTrue(all(type(table) is tuple for table in found))
            self.assertEqual(demand_of(shape=shape, m=m, scheme=scheme, plan=plan), found)

    def test_by_hand(self):
        self.assertEqual(demand_of((2, 3), 5, SCHEME, PLAN), ((4, 2, 0, 4, 2, 0), (1, 1, 1, 1, 1, 1)))
        self.assertEqual(demand_of((2, 3), 0, SCHEME, PLAN), ((9, 7, 5, 4, 2, 10), (21, 26, 31, 36, 41, 21)))
        self.assertEqual(demand_of((2,), 7, (((0,),), ((-1,),)), ((0, 3),)), ((0, 4),))
        self.assertEqual(demand_of((2,), 0, (((0,),), ((-1,),)), ((0, -3),)), ((0, 3),))
        self.assertEqual(demand_of((2, 2), 0, (((), ()), ((2, 3),)), ((1,), (10,))), ((32,) * 4,))
        self.assertEqual(demand_of((2, 1), 0, (((1,), (0,)), ((0, 0), (1, 1))), ((4,), (5, 6))), ((0, 0), (9, 10)))

    def test_errors(self):
        wrong = [
            (0, BadShape, helper.NO_SHAPES), (1, BadModulus, helper.NO_MODULI), (2, BadScheme, BAD_SCHEMES),
            (3, BadPlan, BAD_PLANS),
        ]
        given, names = ((2, 3), 5, SCHEME, PLAN), ("shape", "m", "scheme", "plan")
        helper.check_errors(self, demand_of, names, given, wrong)

    def test_a_plan_of_whole_numbers(self):
        self.assertIsNone(helper.raised(demand_of, (2, 3), 0, SCHEME, ((0, -5), *PLAN[1:])))
        self.assertIs(type(helper.raised(demand_of, (2, 3), 0, SCHEME, ((0, False), *PLAN[1:]))), BadPlan)


class SmallSystems(unittest.TestCase):
    def test_small_systems(self):
        for rng, shape, m, scheme in some_schemes("small", 1):
            demand = tuple(helper.some_table(rng, shape, m) for _ in scheme[1])
            for lot in helper.every_lot(shape):
                for word in helper.every_word(shape, lot):
                    found = small_system(shape, m, scheme, demand, lot, word)
                    self.assertEqual(found, helper.small_by_words(shape, m, scheme, demand, lot, word))
                    self.assertTrue(all(type(row) is tuple for row in (found, *found, *found[0])))
                    if 0 in word:
                        self.assertEqual(found[1], (0,) * len(demand))

    def test_by_hand(self):
        demand = ((1, 2, 3, 4, 5, 16), (0, 0, 0, 0, 0, 1))
        for lot, word, rows, sides in (
            ((), (), ((1, -2, 3), (0, 5, 7)), (1, 0)), ((0,), (1,), ((1, -2), (0, 5)), (3, 0)),
            ((1,), (2,), ((-2,), (5,)), (2, 0)), ((0, 1), (1, 2), ((-2,), (5,)), (10, 1)),
            ((0, 1), (1, 0), ((-2,), (5,)), (0, 0)), ((0,), (0,), ((1, -2), (0, 5)), (0, 0)),
        ):
            self.assertEqual(small_system((2, 3), 0, SCHEME, demand, lot, word), (rows, sides))
        found = small_system(shape=(2, 2), m=2, scheme=PAIR, demand=((0, 0, 0, 1),), lot=(0, 1), word=(1, 1))
        self.assertEqual(found, (((),), (1,)))
        # The lists stand in the scheme's order, also where lots are repeated.
        scheme = (((1,), (0, 1), (0,), (1,)), ((1, 2, 3, 4),))
        self.assertEqual(small_system((2, 2), 0, scheme, ((0,) * 4,), (1,), (1,)), (((1, 2, 4),), (0,)))

    def test_errors(self):
        wrong = [
            (0, BadShape, helper.NO_SHAPES), (1, BadModulus, helper.NO_MODULI), (2, BadScheme, BAD_SCHEMES[:20]),
            (3, BadDemand, BAD_DEMANDS), (4, BadLot, BAD_LOTS), (5, BadWord, BAD_WORDS),
        ]
        given = ((2, 3), 5, SCHEME, DEMAND, (0, 1), (1, 2))
        helper.check_errors(self, small_system, ("shape", "m", "scheme", "demand", "lot", "word"), given, wrong)


class Judged(unittest.TestCase):
    def check(self, shape, m, scheme, demand):
        found = judge_demand(shape, m, scheme, demand)
        self.assertTrue(helper.is_right_for_demand(shape, m, scheme, demand, found), (shape, m, scheme, demand, found))
        self.assertIs(demand_holds(shape, m, scheme, demand, found), True)
        return found

    def test_all_plans_tried(self):
        kinds = collections.Counter()
        for rng, shape, m, scheme in small_schemes("tried", 12):
            plans = collections.Counter(
                helper.demand_by_search(shape, m, scheme, plan) for plan in helper.every_plan(shape, m, scheme)
            )
            zero = ((0,) * len(helper.every_world(shape)),) * len(scheme[1])
            self.assertEqual(many_plans(shape, m, scheme), plans[zero], (shape, m, scheme))
            # Each demand that can be kept is kept by as many plans as the demand 0.
            self.assertEqual(set(plans.values()), {plans[zero]})
            some = rng.sample(sorted(plans), min(len(plans), 10))
            for demand in [*some, *[with_one_changed(rng, m, one) for one in some]]:
                found = self.check(shape, m, scheme, demand)
                self.assertEqual(found[0] == "lists", demand in plans, (shape, m, scheme, demand))
                kinds[found[0]] += 1
        self.assertGreater(min(kinds["lists"], kinds["bar"]), 200)

    def test_all_small_demands(self):
        for shape, m, scheme in (
            ((2, 2), 2, PAIR), ((2, 2), 3, (((0,), (1,)), ((1, 2),))), ((2, 2), 4, (((0,), (0, 1)), ((1, 2),))),
            ((2,), 4, (((0,), ()), ((2, 1), (0, 2)))), ((3,), 4, (((0,),), ((2,),))),
            ((1, 2), 6, (((1,), ()), ((2, 3),))),
            ((2, 2), 2, (((0,), (1,)), ((1, 1), (0, 1)))), ((2,), 6, (((), (0,)), ((1, 3), (2, 2)))),
        ):
            plans = helper.every_plan(shape, m, scheme)
            right = {helper.demand_by_search(shape, m, scheme, plan) for plan in plans}
            tables = helper.every_row(m, len(helper.every_world(shape)))
            for demand in itertools.product(tables, repeat=len(scheme[1])):
                self.assertEqual(self.check(shape, m, scheme, demand)[0] == "lists", demand in right)

    def test_demands_of_plans(self):
        for rng, shape, m, scheme in some_schemes("of plans"):
            plan = helper.some_plan(rng, shape, m, scheme)
            demand = helper.demand_by_search(shape, m, scheme, plan)
            self.assertEqual(self.check(shape, m, scheme, demand)[0], "lists")
            self.assertIs(demand_holds(shape, m, scheme, demand, ("lists", plan)), True)
            other = with_one_changed(rng, m, demand)
            self.check(shape, m, scheme, other)
            self.assertIs(demand_holds(shape, m, scheme, other, ("lists", plan)), other == demand)

    def test_demands_of_any_kind(self):
        for rng, shape, m, scheme in some_schemes("any kind", 1):
            demand = tuple(helper.some_table(rng, shape, m) for _ in scheme[1])
            found = self.check(shape, m, scheme, demand)
            self.assertEqual(judge_demand(shape=shape, m=m, scheme=scheme, demand=demand), found)
            self.assertEqual(judge_demand(shape, m, scheme, demand), found)

    def test_exactly_if_each_small_system_has_a_solution(self):
        kinds = collections.Counter()
        for rng, shape, m, scheme in some_schemes("each small"):
            if m in (2, 3, 4) and len(helper.every_world(shape)) <= 24:
                plan = helper.some_plan(rng, shape, m, scheme)
                demand = with_one_changed(rng, m, helper.demand_by_search(shape, m, scheme, plan))
                barred = self.barred_words(shape, m, scheme, demand)
                found = judge_demand(shape, m, scheme, demand)
                kinds[found[0]] += 1
                self.assertEqual(found[0] == "bar", bool(barred))
                self.assertTrue(found[0] == "lists" or found[1:3] in barred)
        self.assertGreater(min(kinds["lists"], kinds["bar"]), 5)

    def barred_words(self, shape, m, scheme, demand):
        """The pairs of a lot and a word without first letters whose small systems no row of numbers solves."""
        found = []
        for lot in helper.every_lot(shape):
            for word in helper.every_word(shape, lot):
                rows, sides = helper.small_by_words(shape, m, scheme, demand, lot, word)
                items = helper.every_row(m, len(rows[0])) if 0 not in word else []
                if items and not any(helper.is_right_solution(m, rows, sides, one) for one in items):
                    found.append((lot, word))
        return found

    def test_cubes_beyond_all_lots_bar(self):
        for m in helper.MODULI:
            found = self.check((2, 2), m, PAIR, ((0, 0, 0, 1),))
            self.assertEqual(found[:3], ("bar", (0, 1), (1, 1)))
            self.assertEqual(self.check((2, 2, 2), m, (((0, 1), (1, 2), (0, 2)), ((1, 1, 1),)), ((0,) * 7 + (1,),))[1],
                             (0, 1, 2))

    def test_lists_that_see_nothing_and_all(self):
        for m in helper.MODULI:
            nothing, everything = (((),), ((1,),)), (((0, 1),), ((1,),))
            self.assertEqual(judge_demand((2, 2), m, nothing, ((1,) * 4,)), ("lists", ((1,),)))
            self.assertEqual(self.check((2, 2), m, nothing, ((1, 1, 1, 0),))[0], "bar")
            self.assertEqual(judge_demand((2, 2), m, everything, ((0, 1, 1, 0),)), ("lists", ((0, 1, 1, 0),)))
            self.assertEqual(self.check((2, 2), m, (((0, 1),), ((0,),)), ((0, 1, 1, 0),))[0], "bar")
            self.assertEqual(self.check((2, 2), m, (((0, 1),), ((0,),)), ((0,) * 4,))[0], "lists")
            self.assertEqual(self.check((2, 2), m, (((),), ((0,),)), ((1,) * 4,))[:3], ("bar", (), ()))

    def test_single_letters(self):
        for m in helper.MODULI:
            self.assertEqual(self.check((1, 1), m, (((0,), (1,)), ((1, 1),)), ((1,),))[0], "lists")
            self.assertEqual(self.check((1, 2, 1), m, (((0,), (2,)), ((1, 1),)), ((1, 0),))[:3], ("bar", (1,), (1,)))
            self.assertEqual(self.check((1, 2, 1), m, (((1,), (2,)), ((1, 1),)), ((1, 0),))[0], "lists")
            self.assertEqual(self.check((4, 1), m, (((0, 1), (0,)), ((1, 1),)), ((1, 0, 1, 1),))[0], "lists")

    def test_whole_numbers_and_moduli(self):
        demand = ((1, 3, 5, 7),)
        scheme = (((0, 1),), ((2,),))
        self.assertEqual(self.check((2, 2), 0, scheme, demand)[:3], ("bar", (), ()))
        self.assertEqual(self.check((2, 2), 9, scheme, demand)[0], "lists")
        self.assertEqual(self.check((2, 2), 8, scheme, demand)[0], "bar")
        self.assertEqual(self.check((2, 2), 0, scheme, ((-2, 4, 6, 10 ** 30 - 2),))[0], "lists")
        self.assertEqual(judge_demand((2,), 0, (((0,),), ((-1,),)), ((5, -5),)), ("lists", ((-5, 5),)))
        # Each of the two sums alone can be kept, but not both together.
        scheme = (((0,), (1,)), ((1, 1), (1, -1)))
        self.assertEqual(self.check((2, 2), 0, scheme, ((0, 0, 1, 1), (0, 0, 1, 1)))[0], "lists")
        self.assertEqual(self.check((2, 2), 0, scheme, ((0, 0, 1, 1), (0, 0, 2, 2)))[0], "bar")
        self.assertEqual(self.check((2, 2), 0, scheme, ((1, 1, 1, 1), (0, 0, 0, 0)))[:3], ("bar", (), ()))
        self.assertEqual(self.check((2, 2), 3, scheme, ((1, 1, 1, 1), (0, 0, 0, 0)))[0], "lists")

    def test_parts_make_the_plan(self):
        # What a list sees besides is told by the parts of the table [2.2].
        rng = helper.seeded("parts")
        for shape, m in itertools.product(helper.SHAPES, helper.MODULI):
            table = helper.some_table(rng, shape, m)
            lots = tuple(helper.every_lot(shape))[:6]
            lists = tuple(part(shape, m, table, lot) for lot in lots)
            demand = (total(shape, m, lots, lists),)
            scheme = (lots, ((1,) * len(lots),))
            self.assertIs(demand_holds(shape, m, scheme, demand, ("lists", lists)), True)
            self.assertEqual(self.check(shape, m, scheme, demand)[0], "lists")


class Held(unittest.TestCase):
    def test_spoiled_certificates(self):
        kinds = collections.Counter()
        for rng, shape, m, scheme in some_schemes("spoiled", 1):
            if len(helper.every_world(shape)) <= 24:
                demand = helper.demand_by_search(shape, m, scheme, helper.some_plan(rng, shape, m, scheme))
                for one in (demand, with_one_changed(rng, m, demand)):
                    found = judge_demand(shape, m, scheme, one)
                    kinds[found[0]] += 1
                    given = (shape, m, scheme, one)
                    helper.check_spoiled(self, demand_holds, helper.is_right_for_demand, given, found, rng, 25)
        self.assertGreater(min(kinds["lists"], kinds["bar"]), 50)

    def test_each_entry_of_a_plan_counts(self):
        for m in helper.MODULI:
            shape, scheme = (2, 3), (((0,), (0, 1), ()), ((1, 1, 1),))
            plan = ((1, 0), (0, 1, 1, 0, 0, 1), (1,))
            demand = helper.demand_by_search(shape, m, scheme, plan)
            self.assertIs(demand_holds(shape, m, scheme, demand, ("lists", plan)), True)
            for i, entries in enumerate(plan):
                for k, entry in enumerate(entries):
                    other = (*plan[:i], (*entries[:k], 1 - entry, *entries[k + 1:]), *plan[i + 1:])
                    self.assertIs(demand_holds(shape, m, scheme, demand, ("lists", other)), False)

    def test_just_the_right_bars(self):
        for shape, m, scheme, demand in (
            ((2, 2), 2, PAIR, ((0, 0, 0, 1),)), ((2, 2), 4, (((0,), (1,)), ((2, 1),)), ((1, 0, 2, 3),)),
            ((2, 2), 6, (((0, 1),), ((2,),)), ((0, 3, 1, 4),)), ((3,), 4, (((0,),), ((2,),)), ((0, 2, 3),)),
            ((2,), 4, (((0,), ()), ((2, 1), (0, 2))), ((0, 2), (1, 3))), ((2, 1), 3, (((1,),), ((1,),)), ((1, 2),)),
        ):
            held = []
            for lot in helper.every_lot(shape):
                for word in helper.every_word(shape, lot):
                    for shares in helper.every_share_row(m, len(demand)):
                        thing = ("bar", lot, word, shares)
                        right = helper.is_right_for_demand(shape, m, scheme, demand, thing)
                        self.assertIs(demand_holds(shape, m, scheme, demand, thing), right, thing)
                        held += [thing] if right else []
                        self.assertFalse(right and 0 in word)
            self.assertTrue(held)
            self.assertIn(judge_demand(shape, m, scheme, demand), held)

    def test_bars_that_are_none(self):
        given = ((2, 2), 0, PAIR, ((0, 0, 0, 1),))
        for shares in (((1, 2),), ((1, 3),), ((10 ** 11, 10 ** 11 + 1),)):
            self.assertIs(demand_holds(*given, ("bar", (0, 1), (1, 1), shares)), True)
        things = (
            ("bar", (0, 1), (1, 1), ((0, 1),)), ("bar", (0, 1), (1, 1), ((2, 4),)), ("bar", (0, 1), (1, 1), ((3, 2),)),
            ("bar", (0, 1), (1, 1), ((-1, 2),)), ("bar", (0, 1), (1, 0), ((1, 2),)), ("bar", (0, 1), (0, 1), ((1, 2),)),
            ("bar", (0,), (1,), ((1, 2),)), ("bar", (), (), ((1, 2),)), ("bar", (1, 0), (1, 1), ((1, 2),)),
            ("bar", (0, 1), (1,), ((1, 2),)), ("bar", (0, 1), (1, 1, 1), ((1, 2),)), ("bar", (0, 1), (1, 2), ((1, 2),)),
            ("bar", (0, 1), (True, 1), ((1, 2),)), ("bar", (False, 1), (1, 1), ((1, 2),)),
            ("bar", (0, 1), (1, 1), (1, 2)),
            ("bar", (0, 2), (1, 1), ((1, 2),)), ("bar", [0, 1], (1, 1), ((1, 2),)), ("bar", (0, 1), [1, 1], ((1, 2),)),
            ("bar", (0, 1), (1, 1), [(1, 2)]), ("bar", (0, 1), (1, 1), ([1, 2],)), ("bar", (0, 1), (1, 1)),
            ("bar", (0, 1), (1, 1), ((1, 2),), 0), ("bar", (0, 1), (1, 1), ((1, 2), (0, 1))),
            ("bar", (0, 1), (1, 1), ()),
            ["bar", (0, 1), (1, 1), ((1, 2),)], ("Bar", (0, 1), (1, 1), ((1, 2),)), ((0, 1), (1, 1), ((1, 2),), "bar"),
            ("row", (0, 1), (1, 1), ((1, 2),)), ("cube", (0, 1), (1, 1), ((1, 2),)),
            ("bar", (0, 1), (1, 1), ((True, 2),)),
        )
        for thing in things:
            self.assertIs(demand_holds(*given, thing), False, thing)

    def test_plans_in_wrong_dress(self):
        given, plan = ((2, 2), 3, PAIR, ((0, 1, 2, 0),)), ((0, 2), (0, 1))
        self.assertIs(demand_holds(*given, ("lists", plan)), True)
        self.assertIs(demand_holds(*given, ("lists", ((1, 0), (2, 0)))), True)
        things = (
            ["lists", plan], ("lists", list(plan)), ("lists", ([0, 2], (0, 1))), ("lists", plan, ()), ("lists", *plan),
            ("list", plan), plan, ("lists",), ("bar", plan), ("lists", ((0, 2), (False, 1))),
            ("lists", ((3, 2), (0, 1))),
            ("lists", ((0, -1), (0, 1))), ("lists", ((0, 2),)), ("lists", ((0, 2), (0, 1), ())), ("lists", plan[::-1]),
            ("lists", {0: (0, 2), 1: (0, 1)}), ("lists", ((0, 2, 0), (0, 1))), ("lists", ((0, 2), 1)), ("open", plan),
        )
        for thing in things:
            self.assertIs(demand_holds(*given, thing), False, thing)

    def test_any_value(self):
        for given in (
            ((2, 2), 0, PAIR, ((0, 0, 0, 1),)), ((2, 2), 2, PAIR, ((0, 0, 0, 0),)),
            ((1,), 0, (((0,),), ((1,),)), ((7,),)),
            ((2,), 0, (((0,), ()), ((2, 0), (0, 2))), ((0, 3), (0, 0))),
        ):
            odd = [*helper.ODD_VALUES, *helper.ODD_CERTIFICATES]
            odd += itertools.product(("lists", "bar", "row"), helper.ODD_VALUES)
            odd += [("bar", one, other, ((1, 2),)) for one in helper.ODD_VALUES for other in helper.ODD_VALUES[::3]]
            odd += [("bar", (0,), (1,), thing) for thing in helper.ODD_VALUES]
            for thing in odd:
                before = repr(thing)
                right = helper.is_right_for_demand(*given, thing)
                self.assertIs(demand_holds(*given, thing), right, thing)
                self.assertEqual(repr(thing), before)

    def test_by_name(self):
        found = judge_demand((2, 2), 2, PAIR, ((0, 1, 1, 0),))
        self.assertIs(demand_holds(shape=(2, 2), m=2, scheme=PAIR, demand=((0, 1, 1, 0),), thing=found), True)


class Plans(unittest.TestCase):
    def test_the_product_of_small_numbers(self):
        for _, shape, m, scheme in some_schemes("product"):
            if m in (2, 3, 4, 6):
                many = 1
                for lot in helper.every_lot(shape):
                    zero = ((0,) * len(helper.every_world(shape)),) * len(scheme[1])
                    for word in helper.every_word(shape, lot):
                        if 0 not in word:
                            many *= self.loose(m, helper.small_by_words(shape, m, scheme, zero, lot, word)[0])
                self.assertEqual(many_plans(shape, m, scheme), many)
                self.assertEqual(many_plans(shape=shape, m=m, scheme=scheme), many)

    def loose(self, m, rows):
        """The number of loose rows, counted from one column to the next by what the rows come to."""
        sums = collections.Counter({(0,) * len(rows): 1})
        for column in zip(*rows):
            later = collections.Counter()
            for found, many in sums.items():
                for item in range(m):
                    later[tuple(helper.made_by(m, a + item * b) for a, b in zip(found, column))] += many
            sums = later
        return sums[(0,) * len(rows)]

    def test_free_plans_of_whole_numbers(self):
        for _, shape, m, scheme in some_schemes("free"):
            if m == 0 and len(helper.every_world(shape)) <= 24:
                spots = [(i, word) for i, lot in enumerate(scheme[0]) for word in helper.every_word(shape, lot)]
                rows = []
                for sums in scheme[1]:
                    for world in helper.every_world(shape):
                        met = {(i, tuple(world[place] for place in lot)) for i, lot in enumerate(scheme[0])}
                        rows.append([sums[spot[0]] if spot in met else 0 for spot in spots])
                self.assertEqual(many_plans(shape, 0, scheme), len(spots) - helper.rank(rows), (shape, scheme))

    def test_by_hand(self):
        for shape, m, scheme, many in (
            ((2, 2), 3, PAIR, 3), ((2, 2), 10 ** 12, PAIR, 10 ** 12), ((4, 4), 0, PAIR, 1), ((1, 1), 0, PAIR, 1),
            ((2, 2), 7, (((0, 1),), ((1,),)), 1), ((2, 2), 7, (((0, 1),), ((0,),)), 7 ** 4),
            ((2, 2), 0, (((),), ((0,),)), 1),
            ((2, 2), 0, (((0, 1),), ((0,),)), 4), ((2, 2), 0, (((0, 1),), ((5,),)), 0),
            ((2, 2), 4, (((),), ((2,),)), 2),
            ((2, 2), 4, (((0, 1),), ((2,),)), 16), ((4, 4, 4), 9, (((0, 1, 2),), ((3,),)), 3 ** 64),
            ((4, 4, 4), 0, (((0, 1, 2), (0, 1, 2)), ((1, 1),)), 64), ((1,), 5, (((0,), ()), ((1, 2),)), 5),
        ):
            self.assertEqual(many_plans(shape, m, scheme), many, (shape, m, scheme))

    def test_greatest_number(self):
        # 60 entries, by a modulus of 13 digits.
        self.assertEqual(many_plans((4, 4, 4), 10 ** 12, (((0, 1), (1, 2), (0, 2), (0,), (1,), (2,)), ((0,) * 6,))),
                         10 ** (12 * 60))

    def test_errors(self):
        wrong = [
            (0, BadShape, helper.NO_SHAPES), (1, BadModulus, helper.NO_MODULI), (2, BadScheme, BAD_SCHEMES),
        ]
        for m in (0, 5):
            helper.check_errors(self, many_plans, ("shape", "m", "scheme"), ((2, 3), m, SCHEME), wrong)


class Errors(unittest.TestCase):
    wrong = [
        (0, BadShape, helper.NO_SHAPES), (1, BadModulus, helper.NO_MODULI), (2, BadScheme, BAD_SCHEMES),
        (3, BadDemand, BAD_DEMANDS),
    ]
    names = ("shape", "m", "scheme", "demand")
    given = ((2, 3), 5, SCHEME, DEMAND)

    def test_judge_demand(self):
        helper.check_errors(self, judge_demand, self.names, self.given, self.wrong)

    def test_demand_holds(self):
        for thing in (("lists", PLAN), None, [1], {}):
            helper.check_errors(self, demand_holds, (*self.names, "thing"), (*self.given, thing), self.wrong)

    def test_any_value_that_is_none(self):
        for thing in (*helper.ODD_VALUES, *helper.ODD_CERTIFICATES):
            for function, given, kind in (
                (many_plans, ((2, 2), 0, thing), BadScheme), (demand_of, ((2, 2), 2, thing, thing), BadScheme),
                (judge_demand, ((2, 2), 0, thing, thing), BadScheme),
                (judge_demand, ((2, 2), 0, PAIR, thing), BadDemand),
                (demand_holds, ((2, 2), 0, PAIR, thing, thing), BadDemand),
                (demand_of, ((2, 2), 2, PAIR, thing), BadPlan),
                (small_system, ((2, 2), 0, PAIR, thing, thing, thing), BadDemand),
                (demand_holds, ((2, 2), 0, thing, thing, thing), BadScheme),
            ):
                error = helper.raised(function, *given)
                self.assertIs(type(error), kind, thing)
                self.assertIs(error.thing, thing)


class Interface(unittest.TestCase):
    def test_each_function_is_defined_here(self):
        for name in ("is_scheme", "demand_of", "small_system", "judge_demand", "demand_holds", "many_plans"):
            self.assertEqual(getattr(demands, name).__module__, "sightsums.demands")


if __name__ == "__main__":
    unittest.main()
