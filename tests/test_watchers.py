"""What one who overhears entries can tell apart [0.2, 0.3, 8.1 to 8.3]: sightsums.watchers."""

import collections
import itertools
import unittest

import helper
from sightsums import watchers
from sightsums.demands import judge_demand, many_plans
from sightsums.errors import BadDemand, BadLot, BadModulus, BadScheme, BadShape, BadWord, Barred
from sightsums.systems import many_loose
from sightsums.watchers import alike_holds, hidden_places, judge_alike, lots_alike, many_heard
from test_demands import BAD_DEMANDS, BAD_SCHEMES, BAD_WORDS, DEMAND, PAIR, SCHEME, small_schemes, with_one_changed

ODD = ((0, 1, 1, 0),)
AND = ((0, 0, 0, 1),)
MODULI = tuple(m for m in helper.MODULI if m)
NO_MODULI = (0, *helper.NO_MODULI)
# For SCHEME, which has three lists.
HEARD = (0, 2)
BAD_HEARD = (
    None, 0, True, "", "heard", [], {}, [0, 2], {0: 2}, (HEARD,), (3,), (-1,), (0, 3), (True,), (False, 2), (0, True),
    (None,), ("0",), ([0],), ((0,),), (2, 0), (0, 0), (0, 2, 2), (0, 2, 1), (0, None), (0, 1, 2, 3),
)
SHAPES = (
    (1,), (2,), (4,), (1, 1), (2, 2), (3, 2), (1, 4), (4, 4), (2, 2, 2), (3, 1, 2), (2, 3, 4), (1, 1, 1, 1),
    (2, 2, 2, 2), (1, 2, 1, 3), (3, 2, 2, 2),
)


def every_heard(scheme):
    """All ascending tuples of positions of lists."""
    lists = range(len(scheme[0]))
    return [some for size in range(len(lists) + 1) for some in itertools.combinations(lists, size)]


def some_cases(name, many=2):
    """Shapes, moduli, schemes, demands that can be kept, and heard lists of all sizes within the limits."""
    rng = helper.seeded(name)
    for shape, m in itertools.product(SHAPES, MODULI):
        for _ in range(many):
            high = rng.choice((1, 3, 12, 999))
            scheme = helper.some_scheme(rng, shape, rng.randint(1, 4), rng.randint(1, 3), high)
            demand = helper.demand_by_search(shape, m, scheme, some_plan(rng, shape, m, scheme))
            # Who hears few of the lists seldom tells worlds apart.
            yield rng, shape, m, scheme, demand, rng.choice(every_heard(scheme)[-rng.randint(1, 2 ** len(scheme[0])):])


def some_plan(rng, shape, m, scheme):
    """A plan whose lists have few unlike entries, so that its demand has equal numbers at some worlds."""
    few = [helper.some_number(rng, m) for _ in range(rng.randint(1, 3))]
    return tuple(tuple(rng.choice(few) for _ in helper.every_word(shape, lot)) for lot in scheme[0])


def small_cases(name, many):
    """The same for which all plans are tried, with all the plans that keep the demand."""
    for rng, shape, m, scheme in small_schemes(name, many):
        plans = collections.defaultdict(list)
        for plan in helper.every_plan(shape, m, scheme):
            plans[helper.demand_by_search(shape, m, scheme, plan)].append(plan)
        for demand in rng.sample(sorted(plans), min(len(plans), 2)):
            for heard in rng.sample(every_heard(scheme), 2):
                yield rng, shape, m, scheme, demand, heard, heard_by_search(shape, scheme, plans[demand], heard)


def heard_by_search(shape, scheme, plans, heard):
    """For each world how often each row of entries of the heard lists is met there, over all plans."""
    found = {world: collections.Counter() for world in helper.every_world(shape)}
    for plan in plans:
        met = [dict(zip(helper.every_word(shape, lot), entries)) for lot, entries in zip(scheme[0], plan)]
        for world, counts in found.items():
            counts[tuple(met[i][tuple(world[place] for place in scheme[0][i])] for i in heard)] += 1
    return found


class Alike(unittest.TestCase):
    def check(self, *given):
        found = judge_alike(*given)
        self.assertTrue(helper.is_right_for_alike(*given, found), (given, found))
        self.assertIs(alike_holds(*given, found), True)
        return found

    def test_all_plans_tried(self):
        kinds = collections.Counter()
        for rng, shape, m, scheme, demand, heard, rows in small_cases("alike", 6):
            for one, other in itertools.product(rng.sample(sorted(rows), min(len(rows), 4)), repeat=2):
                found = self.check(shape, m, scheme, demand, heard, one, other)
                self.assertEqual(found[0] == "alike", rows[one] == rows[other], (shape, m, scheme, demand, heard))
                kinds[found[0]] += 1
        self.assertGreater(min(kinds["alike"], kinds["sum"]), 100)

    def test_certificates(self):
        kinds = collections.Counter()
        for rng, shape, m, scheme, demand, heard in some_cases("certificates of worlds", 6):
            one, other = (rng.choice(helper.every_world(shape)) for _ in range(2))
            given = (shape, m, scheme, demand, heard, one, other)
            found = self.check(*given)
            kinds[m, found[0]] += 1
            self.assertEqual(judge_alike(*given), found)
            names = ("shape", "m", "scheme", "demand", "heard", "one", "other")
            self.assertEqual(judge_alike(**dict(zip(names, given))), found)
            self.assertIs(alike_holds(**dict(zip(names, given)), thing=found), True)
            # The other way round the kind is the same one.
            self.assertEqual(self.check(*given[:5], other, one)[0], found[0])
        self.assertEqual(set(kinds), set(itertools.product(MODULI, ("alike", "sum"))))
        self.assertGreater(min(kinds.values()), 5)

    def test_the_same_world_twice(self):
        for rng, shape, m, scheme, demand, heard in some_cases("twice", 1):
            world = rng.choice(helper.every_world(shape))
            given = (shape, m, scheme, demand, heard, world, world)
            self.assertEqual(self.check(*given)[0], "alike")
            zeros = (0,) * (len(scheme[0]) - len(heard))
            self.assertIs(alike_holds(*given, ("alike", zeros)), True)

    def test_all_lists_heard(self):
        """Who hears all lists tells apart just the worlds with other numbers, who hears none nothing."""
        for rng, shape, m, scheme, demand, _ in some_cases("all heard", 1):
            numbers = dict(zip(helper.every_world(shape), zip(*demand)))
            one, other = (rng.choice(helper.every_world(shape)) for _ in range(2))
            found = self.check(shape, m, scheme, demand, tuple(range(len(scheme[0]))), one, other)
            self.assertEqual(found == ("alike", ()), numbers[one] == numbers[other])
            self.assertEqual(self.check(shape, m, scheme, demand, (), one, other)[0], "alike")

    def test_by_hand(self):
        worlds = ((0, 0), (0, 1))
        for m, kind in ((2, "sum"), (4, "sum"), (5, "alike"), (9, "alike")):
            demand = helper.demand_by_search((2, 2), m, (((0,), (1,)), ((1, 2),)), ((0, 1), (0, 0)))
            one = self.check((2, 2), m, (((0,), (1,)), ((1, 2),)), demand, (0,), (0, 0), (1, 0))
            self.assertEqual(one[0], kind, m)
        self.assertEqual(judge_alike((2, 2), 5, PAIR, ((0, 1, 1, 2),), (0,), *worlds), ("alike", (1,)))
        self.assertEqual(judge_alike((2, 2), 5, PAIR, ((0, 1, 1, 2),), (0,), *worlds[::-1]), ("alike", (4,)))
        self.assertEqual(self.check((2, 2), 6, PAIR, ((0, 3, 1, 4),), (0, 1), *worlds), ("sum", ((1, 6),)))
        self.assertEqual(self.check((2, 2), 2, (PAIR[0], ((0, 0),)), ((0,) * 4,), (0, 1), *worlds), ("alike", ()))
        two = (((0,), (0,)), ((1, 1), (1, -1)))
        self.assertEqual(self.check((2,), 4, two, ((0, 2), (0, 0)), (), (0,), (1,))[0], "alike")
        self.assertEqual(self.check((2,), 4, two, ((0, 2), (0, 0)), (1,), (0,), (1,))[0], "sum")
        self.assertEqual(self.check((2,), 4, two, ((0, 2), (0, 2)), (1,), (0,), (1,)), ("alike", (2,)))


class HeldAlike(unittest.TestCase):
    def test_spoiled_certificates(self):
        kinds = collections.Counter()
        for rng, shape, m, scheme, demand, heard in some_cases("spoiled worlds"):
            one, other = (rng.choice(helper.every_world(shape)) for _ in range(2))
            given = (shape, m, scheme, demand, heard, one, other)
            found = judge_alike(*given)
            kinds[found[0]] += 1
            helper.check_spoiled(self, alike_holds, helper.is_right_for_alike, given, found, rng, 20)
        self.assertGreater(min(kinds["alike"], kinds["sum"]), 30)

    def test_other_worlds_and_lists(self):
        for rng, shape, m, scheme, demand, heard in some_cases("other worlds", 1):
            one, other = (rng.choice(helper.every_world(shape)) for _ in range(2))
            found = judge_alike(shape, m, scheme, demand, heard, one, other)
            for third in helper.every_world(shape)[:5]:
                for given in ((heard, one, third), (heard, third, other), (heard, other, one)):
                    given = (shape, m, scheme, demand, *given)
                    self.assertIs(alike_holds(*given, found), helper.is_right_for_alike(*given, found))
            for some in every_heard(scheme):
                given = (shape, m, scheme, demand, some, one, other)
                self.assertIs(alike_holds(*given, found), helper.is_right_for_alike(*given, found))

    def test_all_certificates_tried(self):
        """All rows of numbers, and all rows of fractions with bottoms that divide the modulus."""
        for rng, shape, m, scheme, demand, heard, rows in small_cases("certificates tried", 2):
            one, other = (rng.choice(sorted(rows)) for _ in range(2))
            given = (shape, m, scheme, demand, heard, one, other)
            things = [("alike", row) for row in helper.every_row(m, len(scheme[0]) - len(heard))]
            things += [("sum", row) for row in helper.every_share_row(m, len(scheme[1]))]
            right = [thing for thing in things if helper.is_right_for_alike(*given, thing)]
            self.assertEqual([thing for thing in things if alike_holds(*given, thing)], right)
            self.assertEqual({thing[0] for thing in right}, {"alike" if rows[one] == rows[other] else "sum"})

    def test_by_hand(self):
        given = ((2, 2), 6, PAIR, ((0, 3, 1, 4),), (0, 1), (0, 0), (0, 1))
        for row, right in (
            (((1, 6),), True), (((1, 2),), True), (((5, 6),), True), (((1, 3),), False), (((2, 3),), False),
            (((0, 1),), False), (((7, 6),), False), (((-1, 6),), False), (((2, 4),), False), (((3, 6),), False),
            (((1, 4),), False), (((1, 12),), False), (((True, 6),), False), ((1, 6), False), (((1, 6), (1, 6)), False),
            ((), False), ([(1, 6)], False), (([1, 6],), False), (((1, -6),), False),
        ):
            self.assertIs(alike_holds(*given, ("sum", row)), right, row)
        for thing in (("alike", ()), ("alike", (3,)), ["sum", ((1, 6),)], ("sum", ((1, 6),), 0), ("row", ((1, 6),))):
            self.assertIs(alike_holds(*given, thing), False, thing)
        given = ((2, 2), 6, PAIR, ((0, 3, 1, 4),), (), (0, 0), (0, 1))
        for numbers, right in (
            ((0, 3), True), ((3, 0), True), ((4, 5), True), ((1, 1), False), ((0, 9), False), ((0, -3), False),
            ((0, 3, 0), False), ((3,), False), ([0, 3], False), ((False, 3), False), (3, False), ((), False),
        ):
            self.assertIs(alike_holds(*given, ("alike", numbers)), right, numbers)
        for thing in (
            ["alike", (0, 3)], ("alike", (0, 3), 0), ("sum", (0, 3)), ("solution", (0, 3)), ("sum", ((1, 6),)),
        ):
            self.assertIs(alike_holds(*given, thing), False, thing)

    def test_any_value(self):
        for given in (
            ((2, 2), 2, PAIR, ODD, (0,), (0, 0), (0, 1)), ((2, 2), 2, PAIR, ODD, (0, 1), (0, 0), (0, 1)),
            ((2, 2), 6, PAIR, ((0, 3, 1, 4),), (), (0, 0), (0, 1)),
            ((1,), 2, (((0,),), ((1,),)), ((1,),), (), (0,), (0,)),
        ):
            odd = [*helper.ODD_VALUES, *helper.ODD_CERTIFICATES]
            odd += itertools.product(("alike", "sum", "row"), helper.ODD_VALUES)
            odd += [(kind, (thing,)) for kind in ("alike", "sum") for thing in helper.ODD_VALUES]
            odd += [(kind, (thing, thing)) for kind in ("alike", "sum") for thing in helper.ODD_VALUES]
            for thing in odd:
                before = repr(thing)
                self.assertIs(alike_holds(*given, thing), helper.is_right_for_alike(*given, thing), thing)
                self.assertEqual(repr(thing), before)


class Lots(unittest.TestCase):
    def test_all_plans_tried(self):
        sizes = collections.Counter()
        for _, shape, m, scheme, demand, heard, rows in small_cases("lots", 10):
            right = {}
            for world, counts in rows.items():
                right.setdefault(frozenset(counts.items()), []).append(world)
            found = lots_alike(shape, m, scheme, demand, heard)
            self.assertEqual(found, tuple(sorted(tuple(sorted(lot)) for lot in right.values())))
            sizes[len(found)] += 1
        self.assertGreater(min(sizes[1], sizes[2], sizes[3]), 5)

    def test_alike(self):
        for _, shape, m, scheme, demand, heard in some_cases("lots of worlds", 2):
            found = lots_alike(shape, m, scheme, demand, heard)
            self.assertEqual(lots_alike(shape=shape, m=m, scheme=scheme, demand=demand, heard=heard), found)
            self.assertIs(type(found), tuple)
            self.assertEqual(sorted(world for lot in found for world in lot), helper.every_world(shape))
            self.assertEqual(sorted(tuple(sorted(lot)) for lot in found), list(found))
            for k, lot in enumerate(found):
                for world in lot[1:]:
                    self.assertEqual(judge_alike(shape, m, scheme, demand, heard, lot[0], world)[0], "alike")
                for other in found[:k]:
                    self.assertEqual(judge_alike(shape, m, scheme, demand, heard, other[-1], lot[-1])[0], "sum")

    def test_edges(self):
        for m in MODULI:
            every = tuple(helper.every_world((2, 3)))
            for heard in ((), (0,), (0, 1)):
                self.assertEqual(lots_alike((2, 3), m, PAIR, ((0,) * 6,), heard), (every,))
            self.assertEqual(lots_alike((2, 3), m, PAIR, ((0, 0, 0, 1, 1, 1),), (0,)), (every,))
            self.assertEqual(lots_alike((2, 3), m, PAIR, ((0, 0, 0, 1, 1, 1),), (0, 1)), (every[:3], every[3:]))
            others = tuple(world for world in every if world[1] != 1)
            self.assertEqual(lots_alike((2, 3), m, PAIR, ((0, 1, 0, 0, 1, 0),), (0, 1)), (others, every[1::3]))
            self.assertEqual(lots_alike((1, 1), m, PAIR, ((1,),), (0, 1)), (((0, 0),),))


class Hidden(unittest.TestCase):
    def test_all_plans_tried(self):
        found = collections.Counter()
        for _, shape, m, scheme, demand, heard, rows in small_cases("hidden", 10):
            right = []
            for place in range(len(shape)):
                pairs = [(one, other) for one, other in itertools.combinations(rows, 2)
                         if [k for k in range(len(shape)) if one[k] != other[k]] == [place]]
                if all(rows[one] == rows[other] for one, other in pairs):
                    right.append(place)
            self.assertEqual(hidden_places(shape, m, scheme, demand, heard), tuple(right))
            found[len(right) == len(shape), bool(right)] += 1
        self.assertGreater(min(found[True, True], found[False, True], found[False, False]), 10)

    def test_alike(self):
        for _, shape, m, scheme, demand, heard in some_cases("hidden places", 1):
            found = hidden_places(shape, m, scheme, demand, heard)
            self.assertEqual(hidden_places(shape=shape, m=m, scheme=scheme, demand=demand, heard=heard), found)
            self.assertIs(type(found), tuple)
            at = {world: k for k, lot in enumerate(lots_alike(shape, m, scheme, demand, heard)) for world in lot}
            for place in range(len(shape)):
                others = collections.defaultdict(set)
                for world, k in at.items():
                    others[world[:place], world[place + 1:]].add(k)
                self.assertEqual(place in found, all(len(group) == 1 for group in others.values()))
            self.assertEqual(sorted(set(found)), list(found))

    def test_edges(self):
        for m in MODULI:
            rise = ((0, 0, 0, 1, 1, 1),)
            self.assertEqual(hidden_places((2, 3), m, PAIR, rise, (0, 1)), (1,))
            self.assertEqual(hidden_places((2, 3), m, PAIR, rise, (1,)), (0, 1))
            self.assertEqual(hidden_places((2, 3), m, PAIR, rise, ()), (0, 1))
            # A place with a single letter is hidden from all.
            everything = (((0, 1, 2),), ((1,),))
            self.assertEqual(hidden_places((2, 1, 2), m, everything, ((0, 1, 1, 0),), (0,)), (1,))
            self.assertEqual(hidden_places((1, 1, 1), m, everything, ((1,),), (0,)), (0, 1, 2))
            # It is enough that one of the letters is told apart from the others.
            self.assertEqual(hidden_places((3,), m, (((0,),), ((1,),)), ((0, 0, 1),), (0,)), ())
            self.assertEqual(hidden_places((2, 2), m, (((0, 1),), ((1,),)), AND, (0,)), ())


class ManyHeard(unittest.TestCase):
    def test_all_plans_tried(self):
        found = collections.Counter()
        for _, shape, m, scheme, _, heard, rows in small_cases("many heard", 10):
            many = many_heard(shape, m, scheme, heard)
            self.assertEqual({len(counts) for counts in rows.values()}, {many})
            found[min(many, 3)] += 1
        self.assertGreater(min(found[1], found[2], found[3]), 5)

    def test_none_and_all(self):
        for _, shape, m, scheme, _, heard in some_cases("none and all", 2):
            self.assertEqual(many_heard(shape, m, scheme, ()), 1)
            many = many_loose(m, scheme[1])
            self.assertEqual(many_heard(shape, m, scheme, tuple(range(len(scheme[0])))), many)
            found = many_heard(shape=shape, m=m, scheme=scheme, heard=heard)
            self.assertEqual(many // found * found, many)
            self.assertIs(type(found), int)

    def test_by_hand(self):
        two = (((0,), (1,), ()), ((1, 2, 0), (0, 0, 3)))
        for m, heard, many in (
            (2, (0,), 1), (2, (1,), 2), (2, (2,), 1), (2, (0, 1, 2), 2), (3, (2,), 3), (3, (0,), 3), (3, (0, 1), 3),
            (3, (0, 1, 2), 9), (4, (0,), 2), (4, (1,), 4), (4, (0, 1), 4), (6, (0,), 3), (6, (0, 2), 9),
            (6, (1, 2), 18), (6, (0, 1, 2), 18), (10 ** 12, (1,), 10 ** 12), (10 ** 12, (0,), 5 * 10 ** 11),
        ):
            self.assertEqual(many_heard((2, 2), m, two, heard), many, (m, heard))
        free = (((0, 1),) * 4, ((0,) * 4,))
        self.assertEqual(many_heard((2, 2), 10 ** 12, free, (0, 1, 2, 3)), 10 ** 48)
        self.assertEqual(many_heard((2, 2), 10 ** 12, free, (1, 3)), 10 ** 24)

    def test_a_shape_of_one_world(self):
        """With one world the rows that can be heard, all lists heard, are all loose plans."""
        for _, shape, m, scheme, _, _ in some_cases("one world", 2):
            if set(shape) == {1}:
                everything = tuple(range(len(scheme[0])))
                self.assertEqual(many_heard(shape, m, scheme, everything), many_plans(shape, m, scheme))


class Errors(unittest.TestCase):
    names = ("shape", "m", "scheme", "demand", "heard")
    ahead = [
        (0, BadShape, helper.NO_SHAPES), (1, BadModulus, NO_MODULI), (2, BadScheme, BAD_SCHEMES[:12]),
        (3, BadDemand, BAD_DEMANDS[:12]), (4, BadLot, BAD_HEARD),
    ]

    def test_two_worlds(self):
        names = (*self.names, "one", "other")
        wrong = [*self.ahead, (5, BadWord, BAD_WORDS), (6, BadWord, BAD_WORDS)]
        given = ((2, 3), 5, SCHEME, DEMAND, HEARD, (0, 2), (1, 1))
        helper.check_errors(self, judge_alike, names, given, wrong)
        for thing in (("alike", (0,)), [1]):
            helper.check_errors(self, alike_holds, (*names, "thing"), (*given, thing), wrong)

    def test_lots_and_places(self):
        wrong = [*self.ahead[:2], (2, BadScheme, BAD_SCHEMES), (3, BadDemand, BAD_DEMANDS), self.ahead[4]]
        for function in (lots_alike, hidden_places):
            helper.check_errors(self, function, self.names, ((2, 3), 5, SCHEME, DEMAND, HEARD), wrong)

    def test_many_heard(self):
        wrong = [*self.ahead[:2], (2, BadScheme, BAD_SCHEMES), (3, BadLot, BAD_HEARD)]
        names = ("shape", "m", "scheme", "heard")
        helper.check_errors(self, many_heard, names, ((2, 3), 5, SCHEME, HEARD), wrong)

    def test_the_modulus_0(self):
        for function, given in (
            (judge_alike, ((0,), (0, 0), (0, 1))), (alike_holds, ((0,), (0, 0), (0, 1), None)),
            (lots_alike, ((0,),)), (hidden_places, ((0,),)),
        ):
            for demand in (ODD, AND, None):
                error = helper.raised(function, (2, 2), 0, PAIR, demand, *given)
                self.assertIs(type(error), BadModulus)
                self.assertEqual(repr(error.thing), "0")
        self.assertIs(type(helper.raised(many_heard, (2, 2), 0, PAIR, (0,))), BadModulus)

    def test_barred(self):
        for m in MODULI:
            for heard in ((), (0,), (0, 1)):
                helper.check_barred(self, judge_alike, (2, 2), m, PAIR, AND, heard, (0, 0), (0, 0))
                for thing in (("alike", (0,)), ("sum", ((1, 2),)), None):
                    helper.check_barred(self, alike_holds, (2, 2), m, PAIR, AND, heard, (0, 0), (0, 1), thing)
                helper.check_barred(self, lots_alike, (2, 2), m, PAIR, AND, heard)
                helper.check_barred(self, hidden_places, (2, 2), m, PAIR, AND, heard)

    def test_barred_behind_all_else(self):
        worlds, demand = ((0, 0), (0, 1)), ((0,) * 6, (0,) * 5 + (1,))
        for function, given in (
            (judge_alike, worlds), (alike_holds, (*worlds, ("alike", ()))), (lots_alike, ()), (hidden_places, ()),
        ):
            self.assertIs(type(helper.raised(function, (2, 3), 5, SCHEME, demand, HEARD, *given)), Barred)
            for heard in BAD_HEARD:
                error = helper.raised(function, (2, 3), 5, SCHEME, demand, heard, *given)
                self.assertIs(type(error), BadLot)
                self.assertIs(error.thing, heard)
        for word in BAD_WORDS:
            for pair in ((word, (0, 0)), ((0, 0), word), (word, None)):
                for function, given in ((judge_alike, pair), (alike_holds, (*pair, None))):
                    error = helper.raised(function, (2, 3), 5, SCHEME, demand, HEARD, *given)
                    self.assertIs(type(error), BadWord)
                    self.assertIs(error.thing, word)

    def test_nearly_kept_demands(self):
        for rng, shape, m, scheme, demand, heard in some_cases("nearly kept", 2):
            other = with_one_changed(rng, m, demand)
            if judge_demand(shape, m, scheme, other)[0] == "bar":
                helper.check_barred(self, lots_alike, shape, m, scheme, other, heard)
                helper.check_barred(self, hidden_places, shape, m, scheme, other, heard)

    def test_any_value_that_is_none(self):
        for thing in (*helper.ODD_VALUES, *helper.ODD_CERTIFICATES):
            for function, given, kind in (
                (judge_alike, (ODD, thing, (0, 0), (0, 0)), BadLot), (judge_alike, (ODD, (), thing, thing), BadWord),
                (alike_holds, (ODD, (), (0, 0), thing, thing), BadWord), (lots_alike, (ODD, thing), BadLot),
                (hidden_places, (ODD, thing), BadLot), (lots_alike, (thing, thing), BadDemand),
                (hidden_places, (thing, thing), BadDemand), (many_heard, (thing,), BadLot),
            ):
                if repr(thing) not in ("()", "(0, 0)", "(1, 0)", "(0,)", "(0, 1)"):
                    error = helper.raised(function, (2, 2), 2, PAIR, *given)
                    self.assertIs(type(error), kind, (function, thing))
                    self.assertIs(error.thing, thing)


class Interface(unittest.TestCase):
    def test_each_function_is_defined_here(self):
        for name in ("judge_alike", "alike_holds", "lots_alike", "hidden_places", "many_heard"):
            self.assertEqual(getattr(watchers, name).__module__, "sightsums.watchers")


if __name__ == "__main__":
    unittest.main()
