"""Hands that tell one another what they see [0.2, 0.3, 7.1 to 7.3]: sightsums.hands."""

import collections
import functools
import itertools
import unittest

import helper
from sightsums import hands
from sightsums.cubes import least_family
from sightsums.demands import judge_demand
from sightsums.errors import BadDemand, BadFamily, BadModulus, BadNumber, BadScheme, BadShape, BadWeb
from sightsums.hands import least_rounds, least_sights, needless, sights_after
from test_demands import BAD_DEMANDS, BAD_SCHEMES, DEMAND, PAIR, SCHEME, SMALL, with_one_changed

AND = ((0, 0, 0, 1),)
# For SCHEME, which has three lists, over the shape (2, 3).
WEB = ((0, 1), (0, 2), (2, 0))
BAD_WEBS = (
    None, 0, True, "", "web", [], {}, {0: 1}, list(WEB), (WEB,), (0, 1), ((0,),), ((),), ((0, 1, 2),), ((0, 0),),
    ((2, 2),), ((0, 3),), ((3, 0),), ((-1, 0),), ((0, -1),), ((True, 0),), ((0, False),), ([0, 1],), ("01",), (None,),
    ((None, 1),), ((0, None),), ((0, "1"),), (((0,), 1),), ((1, 0), (0, 1)), ((0, 2), (0, 1)), ((0, 1), (0, 1)),
    (*WEB, WEB[2]), (*WEB, None), ((0, 1), [0, 2]),
)
BAD_TUPLES_OF_LOTS = (
    None, 0, True, "", "lots", [], {}, [(0,), (0, 1)], {(0,): 1}, (0,), (0, 1), ((2,),), ((-1,),), ((1, 0),),
    ((0, 0),), ((True,),), ((False, 1),), ([0],), ("0",), (None,), (((0,),),), ((0,), None), ((0,), [1]), ((0, None),),
)
BAD_COUNTS = (-1, -10 ** 30, True, False, None, "", "1", (), (1,), [], [1], {})
SHAPES = (
    (1,), (2,), (4,), (1, 1), (2, 2), (3, 2), (1, 4), (4, 4), (2, 2, 2), (3, 1, 2), (2, 3, 4), (1, 1, 1, 1),
    (2, 2, 2, 2), (1, 2, 1, 3), (3, 2, 2, 2),
)
MOST_SEARCHED = 1500


def some_web(rng, many):
    """A web with none to many pairs."""
    pairs = list(itertools.permutations(range(many), 2))
    return tuple(sorted(rng.sample(pairs, rng.choice((0, rng.randint(0, len(pairs)), min(many, len(pairs)))))))


def some_lots(rng, shape, most=6):
    return tuple(rng.choice(helper.every_lot(shape)) for _ in range(rng.randint(0, most)))


def some_cases(name, many=2):
    """Shapes, moduli, schemes and demands of all sizes: such that can be kept, nearly so, and any ones."""
    rng = helper.seeded(name)
    for shape, m in itertools.product(SHAPES, helper.MODULI):
        for _ in range(many):
            lists, sums = rng.randint(1, 4), rng.randint(1, 3)
            scheme = helper.some_scheme(rng, shape, lists, sums, rng.choice((1, 3, 12, 999)))
            yield rng, shape, m, scheme, some_demand(rng, shape, m, scheme)


def some_demand(rng, shape, m, scheme):
    """The demand of a plan that has some lists 0 everywhere and others that see less, or one with a change."""
    plan = []
    for lot in scheme[0]:
        seen = rng.choice([one for one in helper.every_lot(shape) if set(one) <= set(lot)])
        told = dict(zip(helper.every_word(shape, seen), helper.some_list(rng, shape, m, seen)))
        words = helper.every_word(shape, lot)
        own = [tuple(letter for place, letter in zip(lot, word) if place in seen) for word in words]
        plan.append(tuple(told[word] for word in own) if rng.randrange(3) else (0,) * len(own))
    demand = helper.demand_by_search(shape, m, scheme, tuple(plan))
    style = rng.randrange(5)
    if style == 0:
        return with_one_changed(rng, m, demand)
    return tuple(helper.some_table(rng, shape, m) for _ in demand) if style == 1 else demand


@functools.lru_cache(maxsize=None)
def plans_by_demand(shape, m, lots, sums):
    """All plans of a scheme, for each demand that can be kept."""
    found = collections.defaultdict(list)
    for plan in helper.every_plan(shape, m, (lots, sums)):
        found[helper.demand_by_search(shape, m, (lots, sums), plan)].append(plan)
    return dict(found)


def many_plans(shape, m, lots):
    many = 1
    for lot in lots:
        many *= m ** len(helper.every_word(shape, lot))
    return many


def small_cases(name, many):
    """Shapes, moduli, schemes and demands for which all plans can be tried."""
    rng = helper.seeded(name)
    for shape, m in SMALL:
        for _ in range(many):
            scheme = helper.some_scheme(rng, shape, rng.randint(1, 3), rng.randint(1, 2), rng.choice((1, 3, m, 20)))
            if many_plans(shape, m, scheme[0]) <= MOST_SEARCHED:
                for _ in range(3):
                    yield rng, shape, m, scheme, some_demand(rng, shape, m, scheme)


def is_kept(shape, m, lots, sums, demand):
    return judge_demand(shape, m, (lots, sums), demand)[0] == "lists"


def with_one_less(lots):
    """The lots with one place left out of one of them, in each way."""
    for at, lot in enumerate(lots):
        for place in lot:
            yield (*lots[:at], tuple(one for one in lot if one != place), *lots[at + 1:])


class SightsAfter(unittest.TestCase):
    def test_against_paths(self):
        rng = helper.seeded("sights")
        for shape in helper.SHAPES:
            for _ in range(12):
                lots = some_lots(rng, shape)
                web = some_web(rng, len(lots))
                for k in (*range(len(lots) + 2), 10 ** 30):
                    found = sights_after(shape, lots, web, k)
                    self.assertEqual(found, helper.sights_by_paths(lots, web, k), (lots, web, k))
                    self.assertIs(type(found), tuple)
                    self.assertTrue(all(type(lot) is tuple for lot in found))
                    self.assertEqual(sights_after(shape=shape, lots=lots, web=web, k=k), found)

    def test_round_by_round(self):
        rng = helper.seeded("rounds")
        for shape in helper.SHAPES:
            lots = some_lots(rng, shape)
            web = some_web(rng, len(lots))
            for k in range(len(lots) + 2):
                one_more = sights_after(shape, sights_after(shape, lots, web, k), web, 1)
                self.assertEqual(sights_after(shape, lots, web, k + 1), one_more)
            self.assertEqual(sights_after(shape, lots, web, len(lots)), sights_after(shape, lots, web, len(lots) + 1))

    def test_by_hand(self):
        lots = ((0,), (), (2,), (1,))
        for web, k, found in (
            ((), 9, lots), (((0, 1),), 0, lots), (((0, 1),), 1, ((0,), (0,), (2,), (1,))),
            # All at once: what is told in a round is not told on in it, whichever way the web goes.
            (((0, 1), (1, 2), (2, 3)), 1, ((0,), (0,), (2,), (1, 2))),
            (((0, 1), (1, 2), (2, 3)), 2, ((0,), (0,), (0, 2), (1, 2))),
            (((0, 1), (1, 2), (2, 3)), 3, ((0,), (0,), (0, 2), (0, 1, 2))),
            (((1, 0), (2, 1), (3, 2)), 1, ((0,), (2,), (1, 2), (1,))),
            (((1, 0), (2, 1), (3, 2)), 2, ((0, 2), (1, 2), (1, 2), (1,))),
            (((1, 0), (2, 1), (3, 2)), 3, ((0, 1, 2), (1, 2), (1, 2), (1,))),
            (((0, 3), (3, 0)), 1, ((0, 1), (), (2,), (0, 1))),
            (((0, 1), (2, 1), (3, 1)), 1, ((0,), (0, 1, 2), (2,), (1,))),
            (((0, 1), (1, 2), (2, 3), (3, 0)), 10 ** 30, ((0, 1, 2),) * 4),
        ):
            self.assertEqual(sights_after((2, 2, 2), lots, web, k), found, (web, k))
        self.assertEqual(sights_after((2,), (), (), 0), ())
        self.assertEqual(sights_after((2,), (), (), 5), ())
        self.assertEqual(sights_after((2,), ((0,), (0,)), ((0, 1), (1, 0)), 2), ((0,), (0,)))

    def test_many_lots(self):
        many = 300
        lots = ((0,), *[()] * (many - 2), (1,))
        web = tuple(sorted([(k, k + 1) for k in range(many - 1)] + [(many - 1, 0)]))
        self.assertEqual(sights_after((2, 2), lots, web, many - 2), ((0, 1),) * (many - 2) + ((0,), (1,)))
        self.assertEqual(sights_after((2, 2), lots, web, many - 1), ((0, 1),) * many)

    def test_errors(self):
        wrong = [
            (0, BadShape, helper.NO_SHAPES), (1, BadFamily, BAD_TUPLES_OF_LOTS), (2, BadWeb, BAD_WEBS),
            (3, BadNumber, BAD_COUNTS),
        ]
        given = ((2, 3), ((0,), (0, 1), (0,)), WEB, 2)
        helper.check_errors(self, sights_after, ("shape", "lots", "web", "k"), given, wrong)
        for web in (((0, 1),), ((1, 0),), ((0, 0),)):
            self.assertIs(type(helper.raised(sights_after, (2,), ((0,),), web, 1)), BadWeb)


class LeastRounds(unittest.TestCase):
    def test_all_plans_tried(self):
        found = collections.Counter()
        for rng, shape, m, scheme, demand in small_cases("least rounds", 12):
            web = some_web(rng, len(scheme[0]))
            stages = [helper.sights_by_paths(scheme[0], web, k) for k in range(len(scheme[0]) + 1)]
            if many_plans(shape, m, stages[-1]) <= MOST_SEARCHED:
                if rng.randrange(2):
                    demand = rng.choice(list(plans_by_demand(shape, m, stages[-1], scheme[1])))
                kept = [k for k, lots in enumerate(stages) if demand in plans_by_demand(shape, m, lots, scheme[1])]
                least = least_rounds(shape, m, scheme, demand, web)
                self.assertEqual(least, min(kept, default=None), (shape, m, scheme, demand, web))
                found[least] += 1
        self.assertGreater(min(found[None], found[0], found[1]), 5)

    def test_least(self):
        found = collections.Counter()
        for rng, shape, m, scheme, demand in some_cases("least", 4):
            lots, sums = scheme
            # What all lists see together gives the demands that are to be kept by telling.
            if rng.randrange(2):
                seen = tuple(sorted({place for lot in lots for place in lot}))
                demand = some_demand(rng, shape, m, ((seen,) * len(lots), sums))
            web = some_web(rng, len(lots))
            stages = [helper.sights_by_paths(lots, web, k) for k in range(len(lots) + 2)]
            kept = [k for k, lots in enumerate(stages) if is_kept(shape, m, lots, sums, demand)]
            least = least_rounds(shape, m, scheme, demand, web)
            self.assertEqual(least, min(kept, default=None))
            self.assertIn(type(least), (int, type(None)))
            named = {"shape": shape, "m": m, "scheme": scheme, "demand": demand, "web": web}
            self.assertEqual(least_rounds(**named), least)
            found[least] += 1
        self.assertGreater(min(found[None], found[0], found[1]), 20)

    def test_by_hand(self):
        four = (((0,), (1,), (2,), ()), ((1, 1, 1, 1),))
        last = ((0,) * 7 + (1,),)
        for web, least in (
            ((), None), (((0, 1), (1, 2)), 2), (((0, 1), (1, 2), (2, 3)), 2), (((0, 3), (1, 3), (2, 3)), 1),
            (((0, 1), (1, 3), (2, 3)), 2), (((0, 1), (1, 0)), None), (((0, 1), (1, 2), (2, 0)), 2),
        ):
            for m in (0, 2, 5, 6, 10 ** 12):
                self.assertEqual(least_rounds((2, 2, 2), m, four, last, web), least, web)
        self.assertEqual(least_rounds((2, 2), 2, PAIR, ((0, 1, 1, 0),), ()), 0)
        self.assertEqual(least_rounds((2, 2), 2, PAIR, ((0, 1, 1, 0),), ((0, 1), (1, 0))), 0)
        # The list that is told all has the multiple 2.
        doubled = (((0,), (1,)), ((1, 2),))
        self.assertIsNone(least_rounds((2, 2), 4, doubled, AND, ((0, 1),)))
        self.assertEqual(least_rounds((2, 2), 5, doubled, AND, ((0, 1),)), 1)
        self.assertEqual(least_rounds((2, 2), 0, doubled, AND, ((0, 1), (1, 0))), 1)

    def test_the_demand_0(self):
        for rng, shape, m, scheme, demand in some_cases("demand 0", 1):
            zero = tuple((0,) * len(table) for table in demand)
            self.assertEqual(least_rounds(shape, m, scheme, zero, some_web(rng, len(scheme[0]))), 0)
            self.assertEqual(needless(shape, m, scheme, zero), tuple(range(len(scheme[0]))))
            self.assertEqual(least_sights(shape, m, scheme, zero), ((),) * len(scheme[0]))


class Needless(unittest.TestCase):
    def test_all_plans_tried(self):
        found = collections.Counter()
        for _, shape, m, scheme, demand in small_cases("needless", 12):
            plans = plans_by_demand(shape, m, *scheme).get(demand)
            if plans is None:
                helper.check_barred(self, needless, shape, m, scheme, demand)
                found["bar"] += 1
            else:
                lists = range(len(scheme[0]))
                right = tuple(i for i in lists if any(not any(plan[i]) for plan in plans))
                self.assertEqual(needless(shape, m, scheme, demand), right, (shape, m, scheme, demand))
                found[len(right) == len(lists), bool(right)] += 1
        self.assertGreater(min(found["bar"], found[True, True], found[False, True], found[False, False]), 10)

    def test_against_the_scheme_without_the_list(self):
        for _, shape, m, scheme, demand in some_cases("without"):
            if not is_kept(shape, m, *scheme, demand):
                helper.check_barred(self, needless, shape, m, scheme, demand)
                continue
            right = []
            for i in range(len(scheme[0])):
                lots = scheme[0][:i] + scheme[0][i + 1:]
                sums = tuple(multiples[:i] + multiples[i + 1:] for multiples in scheme[1])
                if is_kept(shape, m, lots, sums, demand) if lots else not any(map(any, demand)):
                    right.append(i)
            found = needless(shape, m, scheme, demand)
            self.assertEqual(found, tuple(right))
            self.assertIs(type(found), tuple)
            self.assertEqual(needless(shape=shape, m=m, scheme=scheme, demand=demand), found)

    def test_by_hand(self):
        for m in (0, 2, 6, 7):
            # Each is needless by itself, but not both together.
            self.assertEqual(needless((2,), m, (((0,), (0,)), ((1, 1),)), ((0, 1),)), (0, 1))
            self.assertEqual(needless((2,), m, (((0,), (0,)), ((1, 0),)), ((0, 1),)), (1,))
            self.assertEqual(needless((2,), m, (((0,), ()), ((1, 1),)), ((1, 1),)), (0, 1))
            self.assertEqual(needless((2,), m, (((0,), ()), ((1, 1),)), ((0, 1),)), (1,))
            self.assertEqual(needless((2,), m, (((0,),), ((1,),)), ((0, 1),)), ())
            self.assertEqual(needless((2,), m, (((0,), (0,)), ((0, 0),)), ((0, 0),)), (0, 1))
        # A list with the multiple 2 stands in for the other one where 2 has an inverse.
        doubled = (((0,), (0,)), ((1, 2),))
        self.assertEqual([needless((2,), m, doubled, ((0, 1),)) for m in (0, 4, 5)], [(1,), (1,), (0, 1)])
        self.assertEqual(needless((2,), 0, doubled, ((0, 2),)), (0, 1))
        # By 6 the demand takes both, since 3 and 2 alone do not make 1.
        self.assertEqual(needless((2,), 6, (((0,), (0,)), ((2, 3),)), ((0, 1),)), ())
        helper.check_barred(self, needless, (2,), 6, (((0,), (0,)), ((2, 4),)), ((0, 1),))


class LeastSights(unittest.TestCase):
    def assert_within(self, lots, found):
        self.assertIs(type(found), tuple)
        self.assertEqual(len(found), len(lots))
        for lot, own in zip(found, lots):
            self.assertIs(type(lot), tuple)
            self.assertEqual(sorted(set(lot)), list(lot))
            self.assertLessEqual(set(lot), set(own))

    def test_all_plans_tried(self):
        found = collections.Counter()
        for _, shape, m, (lots, sums), demand in small_cases("sights", 12):
            if demand not in plans_by_demand(shape, m, lots, sums):
                helper.check_barred(self, least_sights, shape, m, (lots, sums), demand)
                found["bar"] += 1
                continue
            sights = least_sights(shape, m, (lots, sums), demand)
            self.assert_within(lots, sights)
            self.assertIn(demand, plans_by_demand(shape, m, sights, sums))
            for fewer in with_one_less(sights):
                self.assertNotIn(demand, plans_by_demand(shape, m, fewer, sums))
            found[sights == lots, any(sights)] += 1
        self.assertGreater(min(found["bar"], found[True, True], found[False, True], found[False, False]), 10)

    def test_least(self):
        for _, shape, m, (lots, sums), demand in some_cases("least sights"):
            if not is_kept(shape, m, lots, sums, demand):
                helper.check_barred(self, least_sights, shape, m, (lots, sums), demand)
                continue
            sights = least_sights(shape, m, (lots, sums), demand)
            self.assert_within(lots, sights)
            self.assertTrue(is_kept(shape, m, sights, sums, demand))
            for fewer in with_one_less(sights):
                self.assertFalse(is_kept(shape, m, fewer, sums, demand))
            self.assertEqual(least_sights(shape=shape, m=m, scheme=(lots, sums), demand=demand), sights)
            self.assertEqual(least_sights(shape, m, (sights, sums), demand), sights)

    def test_one_list_of_all_places(self):
        rng = helper.seeded("one list")
        for shape, m in itertools.product(helper.SHAPES, helper.MODULI):
            lot = tuple(range(len(shape)))
            table = some_demand(rng, shape, m, ((lot,), ((1,),)))[0]
            seen = {place for told in least_family(shape, m, table) for place in told}
            self.assertEqual(least_sights(shape, m, ((lot,), ((1,),)), (table,)), (tuple(sorted(seen)),))

    def test_by_hand(self):
        for m in (0, 2, 6, 7):
            one = (((0, 1), (0,)), ((1, 1),))
            self.assertEqual(least_sights((2, 2), m, one, AND), ((0, 1), ()))
            self.assertIn(least_sights((2, 2), m, one, ((0, 0, 1, 1),)), (((0,), ()), ((), (0,))))
            self.assertIn(least_sights((2, 2), m, one, ((0, 1, 1, 2 if m != 2 else 0),)), (((0, 1), ()), ((1,), (0,))))
            self.assertEqual(least_sights((2, 2), m, one, ((1, 1, 1, 1),)), ((), ()))
            # A place with a single letter is never needed.
            self.assertEqual(least_sights((2, 1, 2), m, (((0, 1, 2),), ((1,),)), AND), ((0, 2),))
        self.assertEqual(least_sights((1, 1), 0, (((0, 1), (1,)), ((2, 3),)), ((1,),)), ((), ()))
        helper.check_barred(self, least_sights, (2, 2), 0, PAIR, AND)


class Errors(unittest.TestCase):
    wrong = [
        (0, BadShape, helper.NO_SHAPES), (1, BadModulus, helper.NO_MODULI), (2, BadScheme, BAD_SCHEMES),
        (3, BadDemand, BAD_DEMANDS),
    ]
    names = ("shape", "m", "scheme", "demand")
    given = ((2, 3), 5, SCHEME, DEMAND)

    def test_needless_and_least_sights(self):
        for function in (needless, least_sights):
            helper.check_errors(self, function, self.names, self.given, self.wrong)

    def test_least_rounds(self):
        wrong = [*self.wrong[:2], (2, BadScheme, BAD_SCHEMES[:20]), self.wrong[3], (4, BadWeb, BAD_WEBS)]
        helper.check_errors(self, least_rounds, (*self.names, "web"), (*self.given, WEB), wrong)

    def test_barred(self):
        for m in helper.MODULI:
            for function in (needless, least_sights):
                helper.check_barred(self, function, (2, 2), m, PAIR, AND)
            self.assertIsNone(least_rounds((2, 2), m, PAIR, AND, ()))
        error = helper.raised(needless, (2, 2), 2, PAIR, AND)
        self.assertEqual(error.certificate, ("bar", (0, 1), (1, 1), ((1, 2),)))

    def test_any_value_that_is_none(self):
        zero = ((0,) * 4,)
        for thing in (*helper.ODD_VALUES, *helper.ODD_CERTIFICATES):
            for function, given, kind in (
                (needless, ((2, 2), 0, PAIR, thing), BadDemand), (least_sights, ((2, 2), 0, PAIR, thing), BadDemand),
                (needless, ((2, 2), 0, thing, zero), BadScheme), (least_sights, ((2, 2), 0, thing, zero), BadScheme),
                (least_rounds, ((2, 2), 0, PAIR, zero, thing), BadWeb),
                (least_rounds, ((2, 2), 0, PAIR, thing, thing), BadDemand),
                (sights_after, ((2, 2), ((0,), (1,)), thing, 1), BadWeb),
                (sights_after, ((2, 2), thing, thing, thing), BadFamily),
            ):
                if thing != () and repr(thing) not in ("((0, 1),)", "((1, 0),)"):
                    error = helper.raised(function, *given)
                    self.assertIs(type(error), kind, (function, thing))
                    self.assertIs(error.thing, thing)


class Interface(unittest.TestCase):
    def test_each_function_is_defined_here(self):
        for name in ("sights_after", "least_rounds", "needless", "least_sights"):
            self.assertEqual(getattr(hands, name).__module__, "sightsums.hands")


if __name__ == "__main__":
    unittest.main()
