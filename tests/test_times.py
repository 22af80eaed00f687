"""The greatest inputs within the limits are answered in a few seconds, by numbers of at most 800 digits."""

import itertools
import time
import unittest

import helper
from sightsums.demands import demand_holds, demand_of, judge_demand, many_plans, small_system
from sightsums.hands import least_rounds, least_sights, needless, sights_after
from sightsums.partial import clash, does_settle, further_holds, judge_further, judge_told, settling, told_holds
from sightsums.shapes import worlds
from sightsums.sure import answer, judge_question, question_holds
from sightsums.systems import judge_sure, judge_system, loose_base, many_loose, sure_holds, system_holds
from sightsums.watchers import alike_holds, hidden_places, judge_alike, lots_alike, many_heard

SECONDS = 3
MODULI = (0, 10 ** 12, 10 ** 12 - 11, 2 ** 39, 3 ** 25, 963761198400)
# Schemes and worlds, looked for, whose systems come to long numbers on the way to their diagonal form.
LONG = (
    ((4, 4, 4), ((1,), (0,), (0, 1, 2), (1, 2)), ((3, 8, -9, -5), (8, 3, -7, 6)),
     ((0, 0, 0), (0, 1, 0), (1, 1, 2), (1, 3, 3), (2, 3, 1), (3, 0, 3), (3, 2, 1), (3, 3, 3))),
    ((2, 3, 4), ((1,), (0, 2), (1, 2), (0, 1, 2)), ((-2, 9, 5, 9), (5, -2, 9, -7)),
     ((0, 0, 0), (0, 0, 3), (0, 1, 3), (0, 2, 0), (1, 1, 0), (1, 1, 2), (1, 1, 3), (1, 2, 1))),
    ((4, 4), ((0, 1), (0,), (0, 1), (1,)), ((9, -2, -7, -9), (8, 9, 2, 2)),
     ((0, 3), (1, 0), (1, 1), (1, 2), (2, 1), (2, 2), (3, 2), (3, 3))),
)


def digits(thing):
    """The digits of the greatest integer in nested tuples."""
    if isinstance(thing, tuple):
        return max([digits(item) for item in thing], default=0)
    return len(str(abs(thing))) if isinstance(thing, int) else 0


class Times(unittest.TestCase):
    def timed(self, function, *values):
        """What a function returns, after checks of its time and digits."""
        start = time.perf_counter()
        found = function(*values)
        self.assertLess(time.perf_counter() - start, SECONDS, function.__name__)
        self.assertLessEqual(digits(found), 800)
        return found

    def test_systems(self):
        rng = helper.seeded("times of systems")
        for m, _ in itertools.product(MODULI, range(40)):
            rows = helper.some_rows(rng, 99, 4, 6)
            top = m - 1 if m else 10 ** 33 - 1
            items = [rng.randint(0, top) for _ in range(6)]
            solvable = tuple(helper.made_by(m, side) for side in helper.row_sums(rows, items))
            for sides in (tuple(rng.randint(top // 2, top) for _ in range(4)), solvable):
                found = self.timed(judge_system, m, rows, sides)
                self.assertTrue(self.timed(system_holds, m, rows, sides, found))
            self.timed(loose_base, m, rows)
            self.timed(many_loose, m, rows)
            times = [rng.randint(-999, 999) for _ in rows]
            made = tuple(sum(a * row[k] for a, row in zip(times, rows)) for k in range(6))
            for weights in (tuple(rng.randint(-999999, 999999) for _ in range(6)), made):
                found = self.timed(judge_sure, m, rows, weights)
                self.assertTrue(self.timed(sure_holds, m, rows, weights, found))

    def test_demands(self):
        rng = helper.seeded("times of demands")
        for m, shape in itertools.product(MODULI, ((4, 4, 4), (2, 4, 2, 4), (4, 4, 2, 2))):
            everything = tuple(range(len(shape)))
            for lots in ((everything,) * 6, tuple(rng.choices(helper.every_lot(shape), k=6))):
                scheme = (lots, tuple(tuple(rng.randint(-999, 999) for _ in lots) for _ in range(3)))
                plan = helper.some_plan(rng, shape, m, scheme)
                demand = self.timed(demand_of, shape, m, scheme, plan)
                other = tuple(helper.some_table(rng, shape, m) for _ in range(3))
                for one in (demand, other):
                    found = self.timed(judge_demand, shape, m, scheme, one)
                    self.assertTrue(self.timed(demand_holds, shape, m, scheme, one, found))
                self.timed(small_system, shape, m, scheme, demand, everything, tuple(many - 1 for many in shape))
                if m == 0:
                    self.timed(many_plans, shape, m, scheme)

    def test_many_plans(self):
        scheme = (((0, 1, 2),) * 6, ((1, 2, 3, 4, 5, 6), (1, 1, 1, 1, 1, 1), (7, 0, 0, 0, 0, 7)))
        self.assertLessEqual(self.timed(many_plans, (4, 4, 4), 2, scheme), 2 ** (64 * 6))
        zeros = (((0, 1), (0, 1), (1, 2), (0, 2), (2,)), ((0,) * 5,) * 3)
        self.assertEqual(self.timed(many_plans, (4, 4, 4), 99999999999, zeros), 99999999999 ** 68)

    def test_questions(self):
        rng = helper.seeded("times of questions")
        for m, shape in itertools.product(MODULI, ((2, 3, 4), (2, 3, 2, 2), (4, 3, 2, 1))):
            everything = tuple(range(len(shape)))
            for lots in ((everything,) * 4, tuple(rng.choices(helper.every_lot(shape), k=4))):
                scheme = (lots, tuple(tuple(rng.randint(-999, 999) for _ in lots) for _ in range(3)))
                demand = demand_of(shape, m, scheme, helper.some_plan(rng, shape, m, scheme))
                for question in self.questions(rng, shape, scheme):
                    found = self.timed(judge_question, shape, m, scheme, question)
                    self.assertTrue(self.timed(question_holds, shape, m, scheme, question, found))
                    self.timed(answer, shape, m, scheme, demand, question)

    def partial_cases(self, rng):
        """Shapes, schemes and told worlds, as many as there may be."""
        for shape, lots, sums, some in LONG:
            yield shape, (lots, sums), some
        for shape in ((4, 4, 4), (2, 4, 2, 4), (2, 2, 2), (2, 4), (3, 4), (2, 2, 2, 3)):
            for _ in range(4):
                scheme = helper.some_scheme(rng, shape, 4, 2, 9)
                yield shape, scheme, tuple(sorted(rng.sample(worlds(shape), 8)))

    def test_some_worlds(self):
        rng = helper.seeded("times of some worlds")
        for m, (shape, scheme, some) in itertools.product(MODULI, list(self.partial_cases(rng))):
            top = m - 1 if m else 10 ** 30 - 1
            any_told = tuple((world, tuple(rng.randint(top // 2, top) for _ in range(2))) for world in some)
            found = helper.numbers_by_search(shape, m, scheme, helper.some_plan(rng, shape, m, scheme))
            for told in (any_told, tuple((world, found[world]) for world in some)):
                judged = self.timed(judge_told, shape, m, scheme, told)
                self.assertTrue(self.timed(told_holds, shape, m, scheme, told, judged))
                self.timed(clash, shape, m, scheme, told)
            for world in (rng.choice(worlds(shape)), rng.choice(some)):
                judged = self.timed(judge_further, shape, m, scheme, some, world, 1)
                self.assertTrue(self.timed(further_holds, shape, m, scheme, some, world, 1, judged))
            if len(worlds(shape)) == 8:
                for one in ((), some[:4], some):
                    self.timed(does_settle, shape, m, scheme, one)
                    self.timed(settling, shape, m, scheme, one)

    def test_hands(self):
        rng = helper.seeded("times of hands")
        for m, shape in itertools.product(MODULI, ((4, 4, 4), (2, 4, 2, 4), (4, 4, 2, 2))):
            everything, seen = tuple(range(len(shape))), rng.choice(helper.every_lot(shape))
            for lots in ((everything,) * 6, (everything, *[()] * 5), tuple(rng.choices(helper.every_lot(shape), k=6))):
                scheme = (lots, tuple(tuple(rng.randint(-999, 999) for _ in lots) for _ in range(3)))
                demand = demand_of(shape, m, scheme, helper.some_plan(rng, shape, m, scheme))
                self.timed(needless, shape, m, scheme, demand)
                self.timed(least_sights, shape, m, scheme, demand)
                less = ((*lots[:5], seen), scheme[1])
                web = tuple((k, k + 1) for k in range(5))
                self.timed(least_rounds, shape, m, less, demand, web)
                self.timed(least_rounds, shape, m, less, demand, tuple(itertools.permutations(range(6), 2)))
        lots = ((0, 3), *[()] * 200)
        self.timed(sights_after, (4, 4, 2, 2), lots, tuple((k, k + 1) for k in range(200)), 10 ** 30)

    def test_watchers(self):
        rng = helper.seeded("times of watchers")
        for m, shape in itertools.product(MODULI[1:], ((2, 3, 4), (2, 3, 2, 2), (4, 3, 2, 1))):
            everything = tuple(range(len(shape)))
            for lots in ((everything,) * 4, tuple(rng.choices(helper.every_lot(shape), k=4))):
                scheme = (lots, tuple(tuple(rng.randint(-999, 999) for _ in lots) for _ in range(3)))
                demand = demand_of(shape, m, scheme, helper.some_plan(rng, shape, m, scheme))
                for heard in ((), (0,), (1, 3), (0, 1, 2), (0, 1, 2, 3)):
                    given = (shape, m, scheme, demand, heard, rng.choice(worlds(shape)), rng.choice(worlds(shape)))
                    self.assertTrue(self.timed(alike_holds, *given, self.timed(judge_alike, *given)))
                    self.timed(lots_alike, shape, m, scheme, demand, heard)
                    self.timed(hidden_places, shape, m, scheme, demand, heard)
                    self.timed(many_heard, shape, m, scheme, heard)

    def questions(self, rng, shape, scheme):
        """A question with as many triples as there may be, and one that the sums at some worlds tell."""
        spots = [(i, word) for i, lot in enumerate(scheme[0]) for word in helper.every_word(shape, lot)]
        some = sorted(rng.sample(spots, min(len(spots), 40)))
        yield tuple((*spot, rng.randint(-9999, 9999)) for spot in some)
        triples = [(world, e, (1, 1)) for world in rng.sample(worlds(shape), 10) for e in range(len(scheme[1]))]
        given = helper.given_by_words(shape, scheme, triples)
        yield tuple((*spot, int(c)) for spot, c in sorted(given.items()) if c)[:40]


if __name__ == "__main__":
    unittest.main()
