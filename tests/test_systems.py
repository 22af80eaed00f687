"""Systems, rows of fractions, loose rows and sure sums [0.2, 0.3, 3.1 to 3.4]: sightsums.systems."""

import itertools
import math
import unittest

import helper
from sightsums import systems
from sightsums.errors import BadModulus, BadSystem
from sightsums.systems import (
    judge_sure, judge_system, loose_base, many_loose, sure_holds, system_holds,
)

# For two rows of three columns.
BAD_ROWS = (
    (), [], None, 0, True, "rows", {}, ((1, 2), (1,)), ((1,), ()), ((), (1,)), ((1, 2, 3), (1, 2)), ([1, 2, 3],),
    [(1, 2, 3)], ((True, 2, 3),), ((1, 2, 3), (4, 5, False)), ((1, 2, 3), None), ((1, 2, "3"), (4, 5, 6)),
    ((1, 2, 3), (4, 5, (6,))), ((1, 2, 3), (4, 5, [6])), (1, 2, 3), (None,), ((None,),), ((1, 2, 3), {}), ((), None),
    ((), []), "ab", ("ab", "cd"),
)
BAD_SIDES = (
    (), (0,), (0, 0, 0), [0, 0], (0, True), (False, 0), (0, None), (0, "0"), None, 0, "00", {}, {0: 0, 1: 0},
    ((0,), (0,)), (0, (0,)), (0, [0]),
)
BAD_SIDES_BY_5 = (*BAD_SIDES, (0, 5), (-1, 0), (6, 7), (0, -5))
BAD_WEIGHTS = (
    (), (0, 0), (0, 0, 0, 0), [0, 0, 0], (0, 0, True), (False, 0, 0), (0, None, 0), (0, "0", 0), None, 0, "000", {},
    ((0,), (0,), (0,)), (0, 0, (0,)), (0, 0, [0]),
)
ROWS = ((1, 2, 3), (-4, 5, 60))


def some_sides(rng, m, rows):
    """Sides of any kind, or those of some row of numbers, or these with one changed."""
    if rng.randrange(3) == 0:
        return tuple(helper.some_number(rng, m) for _ in rows)
    items = [helper.some_number(rng, m) for _ in rows[0]]
    sides = [helper.made_by(m, side) for side in helper.row_sums(rows, items)]
    if rng.randrange(2):
        k = rng.randrange(len(rows))
        sides[k] = helper.made_by(m, sides[k] + rng.choice((1, -1, 2, 3, 30, m // 2)))
    return tuple(sides)


def some_weights(rng, rows):
    """Weights of any kind, or whole multiples of the rows, or half of them where this is whole."""
    if rng.randrange(3) == 0:
        return tuple(rng.choice((0, 1, -1, rng.randint(-10 ** 6 + 1, 10 ** 6 - 1))) for _ in rows[0])
    times = [rng.randint(-20, 20) for _ in rows]
    weights = [sum(a * row[k] for a, row in zip(times, rows)) for k in range(len(rows[0]))]
    if all(weight // 2 * 2 == weight for weight in weights):
        weights = [weight // 2 for weight in weights]
    return tuple(weights)


def small_rows(high):
    """All rows of at most two rows and at most two columns, with few integers."""
    for many, size in ((1, 0), (2, 0), (1, 1), (2, 1), (1, 2), (2, 2)):
        one = list(itertools.product(range(-1, high), repeat=size))
        yield from itertools.product(one, repeat=many)


def some_systems(name, many=4):
    """Rows and moduli of all sizes within the limits."""
    rng = helper.seeded(name)
    for m, height, width in itertools.product(helper.MODULI, (1, 2, 3, 4), range(7)):
        for _ in range(many):
            yield rng, m, helper.some_rows(rng, rng.choice((3, 12, 99)), height, width)


class Judged(unittest.TestCase):
    def check(self, m, rows, sides):
        found = judge_system(m, rows, sides)
        self.assertTrue(helper.is_right_for_system(m, rows, sides, found), (m, rows, sides, found))
        self.assertIs(system_holds(m, rows, sides, found), True)
        return found

    def test_all_small_systems(self):
        for m, high in ((2, 2), (3, 3), (4, 3), (6, 3)):
            for rows in small_rows(high):
                right = {}
                for items in helper.every_row(m, len(rows[0])):
                    sides = tuple(helper.made_by(m, side) for side in helper.row_sums(rows, items))
                    right.setdefault(sides, []).append(items)
                for sides in helper.every_row(m, len(rows)):
                    found = self.check(m, rows, sides)
                    self.assertEqual(found[0] == "solution", sides in right, (m, rows, sides))

    def test_systems_against_a_search(self):
        for rng, m, rows in some_systems("search", 3):
            for m in (2, 3, 4, 5, 6, 8, 9):
                if m ** len(rows[0]) <= 1000:
                    items = helper.every_row(m, len(rows[0]))
                    right = {tuple(helper.made_by(m, side) for side in helper.row_sums(rows, one)) for one in items}
                    for sides in (some_sides(rng, m, rows), some_sides(rng, m, rows)):
                        self.assertEqual(self.check(m, rows, sides)[0] == "solution", sides in right)

    def test_never_both(self):
        for m in (2, 3, 4, 6):
            for rows in small_rows(2):
                for sides in helper.every_row(m, len(rows)):
                    solutions = [("solution", items) for items in helper.every_row(m, len(rows[0]))]
                    bars = [("row", shares) for shares in helper.every_share_row(m, len(rows))]
                    held = [thing for thing in solutions + bars if system_holds(m, rows, sides, thing)]
                    right = [thing for thing in solutions + bars if helper.is_right_for_system(m, rows, sides, thing)]
                    self.assertEqual(held, right)
                    self.assertEqual({thing[0] for thing in held}, {judge_system(m, rows, sides)[0]})

    def test_certificates(self):
        kinds = set()
        for rng, m, rows in some_systems("judged"):
            for _ in range(4):
                kinds.add((m, self.check(m, rows, some_sides(rng, m, rows))[0]))
        self.assertEqual(kinds, set(itertools.product(helper.MODULI, ("solution", "row"))))

    def test_what_has_a_solution_gets_one(self):
        for rng, m, rows in some_systems("solvable"):
            items = [helper.some_number(rng, m) for _ in rows[0]]
            sides = tuple(helper.made_by(m, side) for side in helper.row_sums(rows, items))
            self.assertEqual(self.check(m, rows, sides)[0], "solution")

    def test_whole_numbers_of_either_sign(self):
        self.assertEqual(judge_system(0, ((3,),), (-6,)), ("solution", (-2,)))
        self.assertEqual(judge_system(0, ((-3,),), (6,)), ("solution", (-2,)))
        self.assertEqual(judge_system(0, ((1, 1), (1, -1)), (-2, -4)), ("solution", (-3, 1)))
        self.assertEqual(judge_system(0, ((-3,),), (-7,))[0], "row")
        self.assertEqual(judge_system(0, ((1,), (1,)), (-5, -5)), ("solution", (-5,)))
        self.assertEqual(judge_system(0, ((2, 4), (6, 8)), (10 ** 29, 0))[0], "solution")
        self.assertEqual(judge_system(0, ((6, 10, 15),), (1,))[0], "solution")
        self.assertEqual(judge_system(0, ((6, 10, 14),), (1,)), ("row", ((1, 2),)))

    def test_sides_that_few_bottoms_do_not_divide(self):
        side = math.lcm(*range(2, 60))
        for sides in ((side, 0), (0, -side), (side, -side)):
            self.assertEqual(self.check(0, ((0, 0), (0, 0)), sides)[0], "row")
            self.assertEqual(self.check(0, ((), ()), sides)[0], "row")
        self.assertEqual(self.check(0, ((1, 2), (1, 2)), (side, 2 * side))[0], "row")

    def test_composite_moduli(self):
        self.assertEqual(judge_system(6, ((2,),), (3,)), ("row", ((1, 2),)))
        self.assertEqual(judge_system(6, ((3,),), (3,))[0], "solution")
        self.assertEqual(judge_system(10 ** 12, ((7,),), (1,))[0], "solution")
        self.assertEqual(judge_system(10 ** 12, ((10,),), (1,))[0], "row")
        self.assertEqual(judge_system(10 ** 12 - 11, ((10,),), (1,))[0], "solution")
        self.assertEqual(judge_system(2, ((2, 4),), (1,)), ("row", ((1, 2),)))
        self.assertEqual(judge_system(3, ((-1,),), (1,)), ("solution", (2,)))

    def test_no_columns(self):
        for m in helper.MODULI:
            for many in (1, 2, 3, 4):
                rows = ((),) * many
                self.assertEqual(judge_system(m, rows, (0,) * many), ("solution", ()))
                self.assertEqual(self.check(m, rows, (0,) * (many - 1) + (1,))[0], "row")
                self.assertIs(system_holds(m, rows, (0,) * many, ("solution", ())), True)
                self.assertIs(system_holds(m, rows, (1,) * many, ("solution", ())), False)

    def test_rows_of_zeros(self):
        for m in helper.MODULI:
            rows = ((0, 0, 0), (0, 0, 0))
            self.assertEqual(self.check(m, rows, (0, 0))[0], "solution")
            self.assertEqual(self.check(m, rows, (0, 1))[0], "row")
            self.assertEqual(self.check(m, ((0, 0), (0, 1)), (0, 1))[0], "solution")
            self.assertEqual(self.check(m, ((0, 0), (0, 1)), (1, 1))[0], "row")

    def test_by_name_and_again(self):
        for m, rows, sides in ((0, ROWS, (1, 2)), (6, ((2, 4),), (1,)), (0, ((2, 4),), (1,))):
            found = judge_system(m, rows, sides)
            self.assertEqual(judge_system(m=m, rows=rows, sides=sides), found)
            self.assertEqual(judge_system(m, rows, sides), found)
            self.assertIs(system_holds(m=m, rows=rows, sides=sides, thing=found), True)


class Held(unittest.TestCase):
    def test_spoiled_certificates(self):
        for rng, m, rows in some_systems("spoiled", 1):
            for _ in range(2):
                sides = some_sides(rng, m, rows)
                found = judge_system(m, rows, sides)
                helper.check_spoiled(self, system_holds, helper.is_right_for_system, (m, rows, sides), found, rng, 60)

    def test_each_item_of_a_solution_counts(self):
        for m in helper.MODULI:
            rows, items = ((1, 0, 1), (0, 1, 1)), (1, 1, 1)
            sides = tuple(helper.made_by(m, 2) for _ in rows)
            self.assertIs(system_holds(m, rows, sides, ("solution", items)), True)
            for k in range(3):
                other = (*items[:k], 0, *items[k + 1:])
                self.assertIs(system_holds(m, rows, sides, ("solution", other)), False)

    def test_solutions_of_another_maker(self):
        for rng, m, rows in some_systems("maker", 2):
            items = tuple(helper.some_number(rng, m) for _ in rows[0])
            sides = tuple(helper.made_by(m, side) for side in helper.row_sums(rows, items))
            self.assertIs(system_holds(m, rows, sides, ("solution", items)), True)
            k = rng.randrange(len(rows))
            other = (*sides[:k], helper.made_by(m, sides[k] + 1), *sides[k + 1:])
            self.assertIs(system_holds(m, rows, other, ("solution", items)), False)

    def test_numbers_of_a_solution_by_the_modulus(self):
        for items, right in (((2,), True), ((7,), False), ((-3,), False), ((3,), False)):
            self.assertIs(system_holds(5, ((2,),), (4,), ("solution", items)), right)
        self.assertIs(system_holds(0, ((2,),), (-6,), ("solution", (-3,))), True)

    def test_fractions(self):
        rows, sides = ((2, 0), (0, 4)), (1, 2)
        right = (((1, 2), (0, 1)), ((0, 1), (1, 4)), ((0, 1), (3, 4)), ((1, 2), (1, 2)))
        wrong = (
            ((0, 1), (0, 1)), ((1, 2), (1, 4)), ((0, 1), (1, 2)), ((2, 4), (0, 1)), ((1, 2), (0, 2)), ((3, 2), (0, 1)),
            ((-1, 2), (0, 1)), ((1, -2), (0, 1)), ((1, 2), (1, 1)), ((1, 2), (0, -1)), ((1, 2), (0, 0)),
            ((1, 2),), ((1, 2), (0, 1), (0, 1)), ((1, 2), 0), (0, (1, 4)), ((1, 2), (False, 1)), ((True, 2), (0, 1)),
            ((1, 2), (0, True)), ([1, 2], (0, 1)), [(1, 2), (0, 1)], ((1, 2), (0, 1, 1)), ((1, 2), (0,)), ((1, 2), ()),
            ((1, 3), (0, 1)), ((1, 2), (1, 3)), ((1, 2), ("0", 1)), ((1, 2), None), ((-1, 2), (1, 1)),
        )
        for m in (0, 4, 12, 10 ** 12):
            for thing in right:
                self.assertIs(system_holds(m, rows, sides, ("row", thing)), True, (m, thing))
            for thing in wrong:
                self.assertIs(system_holds(m, rows, sides, ("row", thing)), False, (m, thing))

    def test_bottoms_divide_the_modulus(self):
        self.assertIs(system_holds(0, ((0,),), (1,), ("row", ((1, 7),))), True)
        self.assertIs(system_holds(10, ((0,),), (1,), ("row", ((1, 7),))), False)
        self.assertIs(system_holds(14, ((0,),), (1,), ("row", ((1, 7),))), True)
        self.assertIs(system_holds(14, ((0,),), (1,), ("row", ((3, 14),))), True)
        self.assertIs(system_holds(14, ((0,),), (1,), ("row", ((3, 28),))), False)
        self.assertIs(system_holds(7, ((2,),), (1,), ("row", ((1, 2),))), False)
        self.assertIs(system_holds(0, ((2,),), (1,), ("row", ((1, 2),))), True)
        self.assertIs(system_holds(0, ((0,),), (1,), ("row", ((1, 10 ** 11 + 3),))), True)

    def test_bars_of_another_maker(self):
        # Sums of one row that bars and of one that is whole everywhere, and multiples of the first.
        rows, sides = ((6, 12), (0, 8)), (1, 4)
        for one, other in itertools.product(range(6), range(8)):
            if (one, other) != (0, 0):
                tops = ((one, 6), (other, 8))
                shares = tuple((top // math.gcd(top, low), low // math.gcd(top, low)) for top, low in tops)
                for m in (0, 24, 10 ** 12 * 3):
                    right = helper.is_right_for_system(m, rows, sides, ("row", shares))
                    self.assertIs(system_holds(m, rows, sides, ("row", shares)), right)
        self.assertIs(system_holds(0, rows, sides, ("row", ((1, 6), (1, 8)))), True)
        self.assertIs(system_holds(0, rows, sides, ("row", ((1, 6), (1, 4)))), True)
        self.assertIs(system_holds(0, rows, sides, ("row", ((0, 1), (1, 4)))), False)

    def test_wrong_dress(self):
        given, items, shares = (4, ((2,),), (2,)), (1,), ((1, 2),)
        self.assertIs(system_holds(*given, ("solution", items)), True)
        self.assertIs(system_holds(4, ((2,),), (1,), ("row", shares)), True)
        things = (
            ["solution", items], ("solution", list(items)), ("solution", items, ()), ("solution", *items),
            ("row", items),
            ("Solution", items), (items, "solution"), items, ("solution",), ("solution", ((1,),)),
            ("solution", (True,)),
            ("solution", 1), ("told", items), ("open", items), ("solution", {0: 1}), (b"solution", items), None, (), "",
        )
        for thing in things:
            self.assertIs(system_holds(*given, thing), False, thing)
        things = (
            ["row", shares], ("row", list(shares)), ("row", shares, 0), ("row",), shares, ("solution", shares), "row",
        )
        for thing in things:
            self.assertIs(system_holds(4, ((2,),), (1,), thing), False, thing)

    def test_any_value(self):
        for m, rows, sides in ((0, ((2,), (3,)), (1, 1)), (4, ((2, 2),), (1,)), (0, ((),), (1,)), (7, ((1, 2),), (3,))):
            for thing in (*helper.ODD_VALUES, *helper.ODD_CERTIFICATES):
                self.check_odd(m, rows, sides, thing)
            for kind, thing in itertools.product(("solution", "row", "told"), helper.ODD_VALUES):
                self.check_odd(m, rows, sides, (kind, thing))

    def check_odd(self, m, rows, sides, thing):
        before = repr(thing)
        right = helper.is_right_for_system(m, rows, sides, thing)
        self.assertIs(system_holds(m, rows, sides, thing), right, thing)
        self.assertEqual(repr(thing), before)


class Loose(unittest.TestCase):
    def check_base(self, m, rows):
        """Check a base by the words of [3.3] against all rows of numbers, for a small modulus."""
        zeros = (0,) * len(rows)
        loose = [one for one in helper.every_row(m, len(rows[0])) if helper.is_right_solution(m, rows, zeros, one)]
        base = loose_base(m, rows)
        self.assertIs(type(base), tuple)
        for pair in base:
            self.assertIs(type(pair), tuple)
            row, k = pair
            self.assertIs(type(k), int)
            self.assertGreaterEqual(k, 2)
            self.assertIn(row, loose)
            self.assertTrue(helper.is_row_of_numbers(m, len(rows[0]), row))
            self.assertFalse(any(helper.made_by(m, k * item) for item in row))
        sums = []
        for times in itertools.product(*[range(k) for _, k in base]):
            columns = [[row[at] for row, _ in base] for at in range(len(rows[0]))]
            sums.append(tuple(helper.made_by(m, item) for item in helper.row_sums(columns, times)))
        self.assertEqual(sorted(sums), loose, (m, rows, base))
        self.assertEqual(many_loose(m, rows), len(loose))

    def test_all_small_rows(self):
        for m, high in ((2, 2), (3, 3), (4, 3), (6, 2)):
            for rows in small_rows(high):
                self.check_base(m, rows)

    def test_rows_against_a_search(self):
        for _, _, rows in some_systems("loose", 1):
            for m in (2, 3, 4, 5, 6, 8, 9, 12):
                if m ** len(rows[0]) <= 800:
                    self.check_base(m, rows)

    def test_great_moduli(self):
        for _, m, rows in some_systems("great", 2):
            if m:
                base, many = loose_base(m, rows), 1
                for row, k in base:
                    self.assertTrue(helper.is_right_solution(m, rows, (0,) * len(rows), row))
                    self.assertFalse(any(helper.made_by(m, k * item) for item in row))
                    self.assertEqual(math.gcd(m, *row) * k, m)
                    many *= k
                self.assertEqual(many_loose(m, rows), many)
        self.assertEqual(many_loose(10 ** 12, ((0, 0), (0, 0))), 10 ** 24)
        self.assertEqual(many_loose(10 ** 12, ((1, 10), (0, 0))), 10 ** 12)
        self.assertEqual(many_loose(10 ** 12, ((10, 0), (0, 4))), 40)
        self.assertEqual(many_loose(10 ** 12 - 11, ((10, 0), (0, 4))), 1)

    def test_whole_numbers(self):
        for _, m, rows in some_systems("base", 3):
            if m == 0:
                base = loose_base(0, rows)
                self.assertIs(type(base), tuple)
                for row in base:
                    self.assertTrue(helper.is_right_solution(0, rows, (0,) * len(rows), row))
                self.assertEqual(len(base), len(rows[0]) - helper.rank(rows))
                self.assertEqual(helper.rank(base), len(base))
                self.assertEqual(many_loose(0, rows), len(base))
                if base:
                    self.assertEqual(self.shared_minor(base), 1, (rows, base))

    def shared_minor(self, base):
        """The divisor of all greatest minors: it is 1 just if no row between those of the base is left out."""
        found = 0
        for columns in itertools.combinations(range(len(base[0])), len(base)):
            found = math.gcd(found, self.minor([[row[k] for k in columns] for row in base]))
        return found

    def minor(self, square):
        if not square:
            return 1
        rest = [row[1:] for row in square]
        tops = [row[0] for row in square]
        return sum((-1) ** k * top * self.minor(rest[:k] + rest[k + 1:]) for k, top in enumerate(tops) if top)

    def test_edges(self):
        self.assertEqual(loose_base(0, ((),)), ())
        self.assertEqual(many_loose(0, ((), ())), 0)
        self.assertEqual(loose_base(7, ((),)), ())
        self.assertEqual(many_loose(7, ((), ())), 1)
        self.assertEqual(loose_base(5, ((1,),)), ())
        self.assertEqual(many_loose(5, ((1,),)), 1)
        self.assertEqual(many_loose(5, ((5,),)), 5)
        self.assertEqual(many_loose(0, ((5,),)), 0)
        self.assertEqual(many_loose(0, ((0, 0, 0),)), 3)
        self.assertIn(loose_base(0, ((2, -4),)), (((2, 1),), ((-2, -1),)))
        self.assertEqual(many_loose(2, ((0, 0, 0, 0, 0, 0),)), 64)

    def test_by_name_and_again(self):
        for m in (0, 6):
            found = loose_base(m, ROWS)
            self.assertEqual(loose_base(m=m, rows=ROWS), found)
            self.assertEqual(loose_base(m, ROWS), found)
            self.assertEqual(many_loose(m=m, rows=ROWS), many_loose(m, ROWS))


class Sure(unittest.TestCase):
    def check(self, m, rows, weights):
        found = judge_sure(m, rows, weights)
        self.assertTrue(helper.is_right_for_sure(m, rows, weights, found), (m, rows, weights, found))
        self.assertIs(sure_holds(m, rows, weights, found), True)
        return found

    def test_all_small_rows(self):
        for m, high in ((2, 2), (3, 2), (4, 3), (6, 2)):
            for rows in small_rows(high):
                zeros = (0,) * len(rows)
                items = helper.every_row(m, len(rows[0]))
                loose = [one for one in items if helper.is_right_solution(m, rows, zeros, one)]
                for weights in itertools.product(range(-1, m), repeat=len(rows[0])):
                    told = not any(helper.made_by(m, sum(a * b for a, b in zip(weights, one))) for one in loose)
                    self.assertEqual(self.check(m, rows, weights)[0] == "told", told, (m, rows, weights))

    def test_never_both(self):
        for m in (2, 4):
            for rows in small_rows(2):
                for weights in itertools.product(range(-1, m), repeat=len(rows[0])):
                    things = [("open", items) for items in helper.every_row(m, len(rows[0]))]
                    things += [("told", tuple((k, 1) for k in one)) for one in helper.every_row(m, len(rows))]
                    held = [thing for thing in things if sure_holds(m, rows, weights, thing)]
                    right = [thing for thing in things if helper.is_right_for_sure(m, rows, weights, thing)]
                    self.assertEqual(held, right)
                    self.assertEqual({thing[0] for thing in held}, {judge_sure(m, rows, weights)[0]})

    def test_certificates(self):
        kinds = set()
        for rng, m, rows in some_systems("sure"):
            for _ in range(3):
                weights = some_weights(rng, rows)
                found = self.check(m, rows, weights)
                kinds.add((m, found[0]))
                if m == 0:
                    self.assertEqual(found[0] == "told", helper.rank((*rows, weights)) == helper.rank(rows))
        self.assertEqual(kinds, set(itertools.product(helper.MODULI, ("told", "open"))))

    def test_told_exactly_if_the_base_says_so(self):
        for rng, m, rows in some_systems("by base", 2):
            weights = some_weights(rng, rows)
            base = loose_base(m, rows)
            loose = base if m == 0 else [row for row, _ in base]
            told = not any(helper.made_by(m, sum(a * b for a, b in zip(weights, row))) for row in loose)
            self.assertEqual(self.check(m, rows, weights)[0] == "told", told)

    def test_edges(self):
        self.assertEqual(self.check(0, ((), ()), ())[0], "told")
        self.assertEqual(self.check(9, ((),), ())[0], "told")
        self.assertEqual(self.check(0, ((0,),), (0,))[0], "told")
        self.assertEqual(self.check(0, ((0,),), (1,))[0], "open")
        self.assertEqual(self.check(6, ((0,),), (12,))[0], "told")
        self.assertEqual(self.check(6, ((0,),), (-13,))[0], "open")
        self.assertEqual(judge_sure(0, ((4, 6),), (-2, -3)), ("told", ((-1, 2),)))
        self.assertEqual(judge_sure(0, ((-4, 6),), (6, -9)), ("told", ((-3, 2),)))
        self.assertEqual(judge_sure(7, ((3,),), (-1,)), ("told", ((2, 1),)))
        self.assertEqual(judge_sure(4, ((2,),), (3,)), ("open", (2,)))

    def test_spoiled_certificates(self):
        for rng, m, rows in some_systems("spoiled sure", 1):
            for _ in range(2):
                weights = some_weights(rng, rows)
                found = judge_sure(m, rows, weights)
                helper.check_spoiled(self, sure_holds, helper.is_right_for_sure, (m, rows, weights), found, rng, 60)

    def test_multiples_of_another_maker(self):
        rows, weights = ((1, 1), (2, 2)), (3, 3)
        for m, thing, right in (
            (0, ((3, 1), (0, 1)), True), (0, ((-1, 1), (2, 1)), True), (0, ((0, 1), (3, 2)), True),
            (0, ((1, 3), (4, 3)), True), (0, ((3, 1), (1, 1)), False), (0, ((6, 2), (0, 1)), False),
            (0, ((3, 1), (0, 2)), False), (0, ((3, 1),), False), (0, ((3, 1), (0, 1), (0, 1)), False),
            (5, ((3, 1), (0, 1)), True), (5, ((0, 1), (4, 1)), True), (5, ((0, 1), (3, 2)), False),
            (5, ((8, 1), (0, 1)), False), (5, ((-2, 1), (0, 1)), False), (5, ((4, 1), (2, 1)), True),
            (5, (3, 0), False), (5, ((3,), (0,)), False), (5, ((3, 1), (False, 1)), False),
            (5, ((3, True), (0, 1)), False),
            (0, ((3, -1), (3, 1)), False), (0, ((-3, -1), (0, 1)), False), (0, ([3, 1], (0, 1)), False),
        ):
            self.assertIs(sure_holds(m, rows, weights, ("told", thing)), right, (m, thing))
            self.assertIs(sure_holds(m, rows, weights, ["told", thing]), False)
            self.assertIs(sure_holds(m, rows, weights, ("told", thing, 0)), False)
            self.assertIs(sure_holds(m, rows, weights, ("open", thing)), False)

    def test_loose_rows_of_another_maker(self):
        rows, weights = ((2, -2),), (1, 0)
        for m, items, right in (
            (0, (1, 1), True), (0, (-7, -7), True), (0, (0, 0), False), (0, (1, 2), False), (0, (1,), False),
            (0, (1, 1, 1), False), (0, (True, 1), False), (0, [1, 1], False), (4, (1, 3), True), (4, (0, 2), False),
            (4, (1, 2), False), (4, (5, 1), False), (4, (-1, 1), False), (4, (2, 0), True), (2, (1, 0), True),
        ):
            self.assertIs(sure_holds(m, rows, weights, ("open", items)), right, (m, items))
        self.assertIs(sure_holds(4, rows, (2, 0), ("open", (2, 0))), False)
        self.assertIs(sure_holds(0, rows, (2, -2), ("open", (1, 1))), False)

    def test_any_value(self):
        for m, rows, weights in (
            (0, ((2,), (3,)), (1,)), (4, ((2, 2),), (1, 1)), (0, ((),), ()), (7, ((1, 2),), (1, 2)),
        ):
            odd = [*helper.ODD_VALUES, *helper.ODD_CERTIFICATES]
            odd += itertools.product(("told", "open", "row"), helper.ODD_VALUES)
            for thing in odd:
                before = repr(thing)
                right = helper.is_right_for_sure(m, rows, weights, thing)
                self.assertIs(sure_holds(m, rows, weights, thing), right, thing)
                self.assertEqual(repr(thing), before)

    def test_by_name_and_again(self):
        for m, weights in ((0, (1, 2, 3)), (6, (1, 2, 3)), (0, (0, 0, 1))):
            found = judge_sure(m, ROWS, weights)
            self.assertEqual(judge_sure(m=m, rows=ROWS, weights=weights), found)
            self.assertEqual(judge_sure(m, ROWS, weights), found)
            self.assertIs(sure_holds(m=m, rows=ROWS, weights=weights, thing=found), True)


class Errors(unittest.TestCase):
    ahead = [(0, BadModulus, helper.NO_MODULI), (1, BadSystem, BAD_ROWS)]

    def test_systems(self):
        for m, bad in ((0, BAD_SIDES), (5, BAD_SIDES_BY_5)):
            wrong = [*self.ahead, (2, BadSystem, bad)]
            given, names = (m, ROWS, (1, 2)), ("m", "rows", "sides")
            helper.check_errors(self, judge_system, names, given, wrong)
            for thing in (("solution", (0, 0, 0)), None, [1], {}):
                helper.check_errors(self, system_holds, (*names, "thing"), (*given, thing), wrong)

    def test_weights(self):
        for m in (0, 5):
            wrong = [*self.ahead, (2, BadSystem, BAD_WEIGHTS)]
            given, names = (m, ROWS, (1, -2, 77)), ("m", "rows", "weights")
            helper.check_errors(self, judge_sure, names, given, wrong)
            for thing in (("told", ((0, 1), (0, 1))), None, [1], {}):
                helper.check_errors(self, sure_holds, (*names, "thing"), (*given, thing), wrong)

    def test_rows(self):
        for function in (loose_base, many_loose):
            helper.check_errors(self, function, ("m", "rows"), (0, ROWS), self.ahead)
            helper.check_errors(self, function, ("m", "rows"), (5, ROWS), self.ahead)

    def test_any_value_that_is_none(self):
        for thing in (*helper.ODD_VALUES, *helper.ODD_CERTIFICATES):
            if repr(thing) not in ("((),)",):
                for call in (
                    lambda thing=thing: loose_base(0, thing), lambda thing=thing: many_loose(3, thing),
                    lambda thing=thing: judge_system(0, thing, (0,)), lambda thing=thing: judge_sure(0, thing, (0,)),
                    lambda thing=thing: system_holds(0, thing, (0,), None),
                    lambda thing=thing: sure_holds(0, thing, (0,), None),
                ):
                    error = helper.raised(call)
                    self.assertIs(type(error), BadSystem, thing)
                    self.assertIs(error.thing, thing)
            if not helper.is_row_of_numbers(0, 2, thing):
                self.assertIs(type(helper.raised(judge_system, 0, ((1, 2), (3, 4)), thing)), BadSystem)
                self.assertIs(type(helper.raised(judge_sure, 3, ((1, 2), (3, 4)), thing)), BadSystem)


class Interface(unittest.TestCase):
    def test_each_function_is_defined_here(self):
        for name in ("judge_system", "system_holds", "loose_base", "many_loose", "judge_sure", "sure_holds"):
            self.assertEqual(getattr(systems, name).__module__, "sightsums.systems")


if __name__ == "__main__":
    unittest.main()
