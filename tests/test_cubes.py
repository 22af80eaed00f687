"""Cubes, parts and families [0.2, 0.3, 2.1, 2.2, 2.3]: sightsums.cubes."""

import itertools
import unittest

import helper
from sightsums import cubes
from sightsums.cubes import cube, family_holds, judge_family, least_family, part
from sightsums.errors import BadFamily, BadList, BadLot, BadModulus, BadShape, BadWord
from sightsums.shapes import total, worlds

BAD_TABLES = (
    (), (0,) * 5, (0,) * 7, (0, 1, 2, 3, 4, 5), (0, 0, 0, 0, 0, -1), (True, 0, 0, 0, 0, 0), (0, 0, 0, 0, 0, False),
    [0, 1, 2, 3, 4, 0], [], None, "000000", 0, {}, (0, 0, 0, 0, 0, None), (0, 0, 0, 0, 0, (0,)),
    (0, 0, 0, 0, 0, [0]), ((0, 0, 0), (0, 0, 0)),
)
BAD_LOTS = ((1, 0), (0, 0), (2,), (-1,), (True,), (False, 1), [0], [], 0, None, "0", {}, ((0,),), (0, None))
BAD_WORDS = ((), (0,), (0, 0, 0), (2, 0), (0, 3), (-1, 0), (True, 0), (0, False), [0, 0], None, "00", 0, {}, ((0,), 0))
BAD_FAMILIES = (
    ((1,), (0,)), ((0,), (0,)), ((), (0,)), ((), (0, 1)), ((0,), (0, 1)), ((0, 1), (1,)), ((1, 0),), ((2,),),
    ((-1,),), ((True,),), ((0,), (True,)), ([0],), [(0,)], [], (0,), 0, None, "", {}, ((0,), 1), ((0,), None),
    (((0,),),), ((), ()),
)


def some_samples(name):
    """A few tables for each shape and modulus, with small and with no parts among them."""
    rng = helper.seeded(name)
    for shape, m in itertools.product(helper.SHAPES, helper.MODULI):
        lots = [rng.choice(helper.every_lot(shape)) for _ in range(3)]
        lists = [helper.some_list(rng, shape, m, lot) for lot in lots]
        yield shape, m, (0,) * len(worlds(shape))
        yield shape, m, helper.some_table(rng, shape, m)
        for many in (1, 2, 3):
            yield shape, m, helper.sum_by_search(shape, m, lots[:many], lists[:many])


def told_tables(shape, m, family):
    """All tables that are sums of lists over the family's lots, found by trying all lists."""
    choices = [itertools.product(range(m), repeat=len(helper.every_word(shape, lot))) for lot in family]
    return {helper.sum_by_search(shape, m, family, lists) for lists in itertools.product(*choices)}


class Parts(unittest.TestCase):
    def test_part_and_cube(self):
        for shape, m, table in some_samples("parts"):
            for lot, expected in helper.parts_by_removal(shape, m, table).items():
                found = part(shape, m, table, lot)
                self.assertIs(type(found), tuple)
                self.assertEqual(found, expected)
                for word, entry in zip(helper.every_word(shape, lot), expected):
                    self.assertEqual(cube(shape, m, table, lot, word), entry)

    def test_by_name(self):
        table = (1, 2, 3, 4, 5, 9)
        self.assertEqual(cube(shape=(2, 3), m=0, table=table, lot=(0, 1), word=(1, 2)), 3)
        self.assertEqual(part(shape=(2, 3), m=0, table=table, lot=(0,)), (0, 3))

    def test_signs(self):
        table = (1, 10, 100, 1000, 10 ** 4, 10 ** 5, 10 ** 6, 10 ** 7)
        self.assertEqual(cube((2, 2, 2), 0, table, (), ()), 1)
        self.assertEqual(cube((2, 2, 2), 0, table, (1,), (1,)), 100 - 1)
        self.assertEqual(cube((2, 2, 2), 0, table, (0, 2), (1, 1)), 10 ** 5 - 10 ** 4 - 10 + 1)
        expected = 10 ** 7 - 10 ** 6 - 10 ** 5 + 10 ** 4 - 1000 + 100 + 10 - 1
        self.assertEqual(cube((2, 2, 2), 0, table, (0, 1, 2), (1, 1, 1)), expected)
        self.assertEqual(cube((2, 2, 2), 10 ** 12, table, (0, 1, 2), (1, 1, 1)), expected)
        self.assertEqual(cube((2, 2, 2), 10 ** 12, table, (1,), (1,)), 99)
        table = (1, 0, 0, 0, 0, 0, 0, 0)
        self.assertEqual(cube((2, 2, 2), 10 ** 12, table, (0, 1, 2), (1, 1, 1)), 10 ** 12 - 1)

    def test_first_letters(self):
        for shape, m, table in some_samples("first"):
            self.assertEqual(cube(shape, m, table, (), ()), table[0])
            for lot in helper.every_lot(shape):
                for word in helper.every_word(shape, lot):
                    if 0 in word:
                        self.assertEqual(cube(shape, m, table, lot, word), 0)

    def test_parts_add_up_to_the_table(self):
        for shape, m, table in some_samples("whole"):
            lots = tuple(helper.every_lot(shape))
            self.assertEqual(total(shape, m, lots, tuple(part(shape, m, table, lot) for lot in lots)), table)

    def test_parts_are_the_only_such_lists(self):
        rng = helper.seeded("only")
        for shape, m in itertools.product(helper.SHAPES, helper.MODULI):
            lots = helper.every_lot(shape)
            lists = []
            for lot in lots:
                entries = helper.some_list(rng, shape, m, lot)
                word_entries = zip(helper.every_word(shape, lot), entries)
                lists.append(tuple(0 if 0 in word else entry for word, entry in word_entries))
            table = helper.sum_by_search(shape, m, lots, lists)
            self.assertEqual([part(shape, m, table, lot) for lot in lots], lists)

    def test_numbers_by_the_modulus(self):
        self.assertEqual(cube((2,), 5, (4, 1), (0,), (1,)), 2)
        self.assertEqual(cube((2,), 0, (4, 1), (0,), (1,)), -3)
        self.assertEqual(part((3,), 10 ** 12, (10 ** 12 - 1, 0, 5), (0,)), (0, 1, 6))
        self.assertEqual(part((2,), 0, (-10 ** 29, 10 ** 29), (0,)), (0, 2 * 10 ** 29))


class LeastFamilies(unittest.TestCase):
    def test_least_family(self):
        for shape, m, table in some_samples("least"):
            lots = helper.lots_with_parts(shape, m, table)
            expected = tuple(sorted(a for a in lots if not any(set(a) < set(b) for b in lots)))
            found = least_family(shape, m, table)
            self.assertEqual(found, expected)
            self.assertIs(type(found), tuple)
            self.assertEqual(least_family(shape=shape, m=m, table=table), found)

    def test_plain_tables(self):
        for shape, m in itertools.product(helper.SHAPES, helper.MODULI):
            many = len(worlds(shape))
            self.assertEqual(least_family(shape, m, (0,) * many), ())
            self.assertEqual(least_family(shape, m, (1,) * many), ((),))

    def test_a_lot_that_stands_in_order_behind_the_one_that_holds_it(self):
        # Table: whether place 0 and place 1 both have letter 1, plus place 1 alone, plus place 2 alone.
        table = tuple(world[0] * world[1] + world[1] + world[2] for world in worlds((2, 2, 2)))
        self.assertEqual(least_family((2, 2, 2), 0, table), ((0, 1), (2,)))
        self.assertEqual(least_family((2, 2, 2), 4, table), ((0, 1), (2,)))

    def test_a_part_that_the_modulus_takes_away(self):
        table = (0, 1, 1, 4)
        self.assertEqual(least_family((2, 2), 2, tuple(entry % 2 for entry in table)), ((0,), (1,)))
        self.assertEqual(least_family((2, 2), 3, tuple(entry % 3 for entry in table)), ((0, 1),))
        self.assertEqual(least_family((2, 2), 0, table), ((0, 1),))


class Judged(unittest.TestCase):
    def check_certificate(self, shape, m, table, family, lots, found):
        """Check a certificate by the words of [2.3]; the lots are those with a part other than 0."""
        told = all(any(set(lot) <= set(big) for big in family) for lot in lots)
        self.assertIs(type(found), tuple)
        self.assertEqual(found[0], "lists" if told else "cube")
        if told:
            self.assertEqual(len(found), 2)
            self.assertEqual(len(found[1]), len(family))
            for lot, entries in zip(family, found[1]):
                self.assertTrue(helper.is_row_of_numbers(m, len(helper.every_word(shape, lot)), entries))
            self.assertEqual(helper.sum_by_search(shape, m, family, found[1]), table)
        else:
            self.assertEqual(len(found), 3)
            self.assertIn(found[1], helper.every_lot(shape))
            self.assertFalse(any(set(found[1]) <= set(big) for big in family))
            parts = helper.parts_by_removal(shape, m, table)
            self.assertNotEqual(dict(zip(helper.every_word(shape, found[1]), parts[found[1]]))[found[2]], 0)
        self.assertIs(family_holds(shape, m, table, family, found), True)

    def test_all_small_tables_and_families(self):
        for shape, m in (((2, 2), 2), ((2, 2), 3), ((2, 2), 4), ((3, 2), 2), ((2, 1), 5), ((3,), 3), ((2, 2, 2), 2)):
            for family in helper.every_family(shape):
                right = told_tables(shape, m, family)
                for table in itertools.product(range(m), repeat=len(worlds(shape))):
                    found = judge_family(shape, m, table, family)
                    self.assertEqual(found[0] == "lists", table in right, (shape, m, table, family))
                    self.assertIs(family_holds(shape, m, table, family, found), True)

    def test_certificates(self):
        rng = helper.seeded("judged")
        for shape, m, table in some_samples("certificates"):
            families = helper.every_family(shape)
            least = least_family(shape, m, table)
            whole = (tuple(range(len(shape))),)
            lots = helper.lots_with_parts(shape, m, table)
            for family in {least, whole, least[1:], *rng.sample(families, 2)}:
                found = judge_family(shape, m, table, family)
                self.check_certificate(shape, m, table, family, lots, found)
            self.assertEqual(judge_family(shape, m, table, least)[0], "lists")
            if least:
                self.assertEqual(judge_family(shape, m, table, least[1:])[0], "cube")

    def test_by_name_and_again(self):
        for shape, m, table, family in (
            ((2, 2), 0, (1, 2, 3, 5), ((0,), (1,))), ((2, 2), 0, (1, 2, 3, 4), ((0,), (1,))), ((3,), 7, (1, 2, 3), ()),
        ):
            found = judge_family(shape, m, table, family)
            self.assertEqual(judge_family(shape=shape, m=m, table=table, family=family), found)
            self.assertEqual(judge_family(shape, m, table, family), found)

    def test_a_part_that_several_lots_hold_counts_once(self):
        shape, family = (2, 2, 2), ((0, 1), (0, 2), (1, 2))
        for m in (0, 2, 3, 10 ** 12):
            kind, lists = judge_family(shape, m, (1,) * 8, family)
            self.assertEqual(kind, "lists")
            self.assertEqual(helper.sum_by_search(shape, m, family, lists), (1,) * 8)

    def test_the_table_0(self):
        for shape, m in itertools.product(helper.SHAPES, helper.MODULI):
            table = (0,) * len(worlds(shape))
            self.assertEqual(judge_family(shape, m, table, ()), ("lists", ()))
            self.assertIs(family_holds(shape, m, table, (), ("lists", ())), True)
            self.assertIs(family_holds(shape, m, table, (), ("cube", (), ())), False)
            other = (*table[:-1], 1)
            self.assertEqual(judge_family(shape, m, other, ())[0], "cube")
            self.assertIs(family_holds(shape, m, other, (), ("lists", ())), False)


class Held(unittest.TestCase):
    def test_each_wrong_entry_is_refused(self):
        for shape, m, table in some_samples("entries"):
            if len(table) > 16 or m not in (0, 2, 6, 10 ** 12):
                continue
            family = least_family(shape, m, table)
            lists = judge_family(shape, m, table, family)[1]
            for at, entries in enumerate(lists):
                for place, entry in enumerate(entries):
                    for wrong in (helper.made_by(m, entry + 1), entry - m if m else entry - 1, str(entry), None):
                        other = (*entries[:place], wrong, *entries[place + 1:])
                        thing = ("lists", (*lists[:at], other, *lists[at + 1:]))
                        self.assertIs(family_holds(shape, m, table, family, thing), False)
                for other in (entries[:-1], (*entries, 0), list(entries), None):
                    thing = ("lists", (*lists[:at], other, *lists[at + 1:]))
                    self.assertIs(family_holds(shape, m, table, family, thing), False)
            for other in (lists[1:] if lists else ((0,),), (*lists, (0,)), list(lists)):
                self.assertIs(family_holds(shape, m, table, family, ("lists", other)), False)

    def test_lists_of_another_maker(self):
        rng = helper.seeded("maker")
        for shape, m in itertools.product(helper.SHAPES, helper.MODULI):
            families = helper.every_family(shape)
            family = rng.choice(families)
            lists = tuple(helper.some_list(rng, shape, m, lot) for lot in family)
            table = helper.sum_by_search(shape, m, family, lists)
            self.assertIs(family_holds(shape, m, table, family, ("lists", lists)), True)
            thing = ("lists", lists)
            self.assertIs(family_holds(shape=shape, m=m, table=table, family=family, thing=thing), True)
            kind, found = judge_family(shape, m, table, family)
            self.assertEqual(kind, "lists")
            self.assertEqual(total(shape, m, family, found), table)

    def test_just_the_right_cubes(self):
        rng = helper.seeded("cubes")
        for shape, m, table in some_samples("cubes"):
            if len(table) > 24 or m not in (0, 2, 6, 97):
                continue
            parts = helper.parts_by_removal(shape, m, table)
            families = helper.every_family(shape)
            for family in [(), ((),), least_family(shape, m, table), rng.choice(families)]:
                for lot, entries in parts.items():
                    free = not any(set(lot) <= set(big) for big in family)
                    for word, entry in zip(helper.every_word(shape, lot), entries):
                        thing = ("cube", lot, word)
                        self.assertIs(family_holds(shape, m, table, family, thing), free and entry != 0)
                        if entry and lot:
                            wrong = (0, *word[1:])
                            self.assertIs(family_holds(shape, m, table, family, ("cube", lot, wrong)), False)

    def test_cubes_that_are_none(self):
        shape, table, family = (2, 2), (0, 0, 0, 1), ((0,), (1,))
        self.assertIs(family_holds(shape, 0, table, family, ("cube", (0, 1), (1, 1))), True)
        things = (
            ("cube", (0, 1), (1, 0)), ("cube", (0, 1), (0, 1)), ("cube", (0, 1), (1,)), ("cube", (0, 1), (1, 1, 1)),
            ("cube", (0, 1), (True, 1)), ("cube", (False, 1), (1, 1)), ("cube", (0, True), (1, 1)),
            ("cube", (1, 0), (1, 1)), ("cube", (0, 2), (1, 1)), ("cube", (0, 1), (1, 2)), ("cube", (0, 1), (-1, 1)),
            ("cube", [0, 1], (1, 1)), ("cube", (0, 1), [1, 1]), ["cube", (0, 1), (1, 1)], ("cube", (0,), (1,)),
            ("cube", (), ()), ("cube", (0, 1)), ("cube", (0, 1), (1, 1), 1), ("lists", (0, 1), (1, 1)),
            ("Cube", (0, 1), (1, 1)), (True, (0, 1), (1, 1)), ((0, 1), (1, 1)), ("bar", (0, 1), (1, 1)),
            ("lists", ((0, 0), (0, 1))), ("lists", ((0, 1), (0, 1))), ("lists", ()), ("lists",), (), None,
        )
        for thing in things:
            self.assertIs(family_holds(shape, 0, table, family, thing), False, thing)

    def test_a_right_lists_certificate_in_wrong_dress(self):
        shape, table, family, lists = (2, 2), (1, 2, 3, 4), ((0,), (1,)), ((1, 3), (0, 1))
        self.assertIs(family_holds(shape, 0, table, family, ("lists", lists)), True)
        things = (
            ["lists", lists], ("lists", list(lists)), ("lists", ([1, 3], (0, 1))), ("lists", lists, ()),
            ("lists", *lists), ("cube", lists), ("cube", *lists), ("list", lists), (lists, "lists"), lists,
            ("lists", ((1, 3), (False, True))), ("lists", ((1, 3), (0, True))), ("lists", lists[::-1]),
            ("lists", ((1, 3), (0, 1), ())), ("lists", ((1, 3),)), ("lists", {0: (1, 3), 1: (0, 1)}), ("lists",),
        )
        for thing in things:
            self.assertIs(family_holds(shape, 0, table, family, thing), False, thing)

    def test_lists_beyond_the_numbers(self):
        self.assertIs(family_holds((2,), 3, (1, 2), ((0,),), ("lists", ((1, 2),))), True)
        for lists in (((4, 2),), ((1, -1),), ((1, 5),), ((-2, 2),)):
            self.assertIs(family_holds((2,), 3, (1, 2), ((0,),), ("lists", lists)), False)

    def test_any_value(self):
        for shape, m, table, family in (
            ((2, 2), 0, (0, 0, 0, 1), ((0,), (1,))), ((2, 2), 2, (0, 0, 0, 0), ()), ((3,), 5, (1, 1, 1), ((),)),
            ((2, 2, 2), 0, (1,) * 8, ((0, 1), (2,))), ((1,), 0, (7,), ()),
        ):
            odd = [*helper.ODD_VALUES, *[("lists", thing) for thing in helper.ODD_VALUES]]
            odd += [("cube", one, other) for one in helper.ODD_VALUES for other in helper.ODD_VALUES[:20]]
            odd += [("cube", (0,), thing) for thing in helper.ODD_VALUES]
            for thing in odd:
                before = repr(thing)
                self.assertIs(family_holds(shape, m, table, family, thing), False, thing)
                self.assertEqual(repr(thing), before)


class Errors(unittest.TestCase):
    """What is wrong here is so for the shape (2, 3), the modulus 5 and the lot (0, 1)."""

    ahead = [(0, BadShape, helper.NO_SHAPES), (1, BadModulus, helper.NO_MODULI), (2, BadList, BAD_TABLES)]
    given = ((2, 3), 5, (0, 1, 2, 3, 4, 0))
    names = ("shape", "m", "table")

    def test_cube(self):
        wrong = [*self.ahead, (3, BadLot, BAD_LOTS), (4, BadWord, BAD_WORDS)]
        helper.check_errors(self, cube, (*self.names, "lot", "word"), (*self.given, (0, 1), (1, 2)), wrong)

    def test_part(self):
        wrong = [*self.ahead, (3, BadLot, BAD_LOTS)]
        helper.check_errors(self, part, (*self.names, "lot"), (*self.given, (0, 1)), wrong)

    def test_least_family(self):
        helper.check_errors(self, least_family, self.names, self.given, self.ahead)

    def test_judge_family(self):
        wrong = [*self.ahead, (3, BadFamily, BAD_FAMILIES)]
        helper.check_errors(self, judge_family, (*self.names, "family"), (*self.given, ((0,), (1,))), wrong)

    def test_family_holds(self):
        wrong = [*self.ahead, (3, BadFamily, BAD_FAMILIES)]
        for thing in (("lists", ((0, 1), (0, 1, 2))), None, [1], {}):
            given = (*self.given, ((0,), (1,)), thing)
            helper.check_errors(self, family_holds, (*self.names, "family", "thing"), given, wrong)

    def test_any_value_that_is_none(self):
        shape, m = (2, 2), 0
        table = (0, 1, 2, 3)
        for thing in helper.ODD_VALUES:
            if not helper.is_row_of_numbers(m, 4, thing):
                self.assertIs(type(helper.raised(least_family, shape, m, thing)), BadList)
            if not helper.is_among(thing, helper.every_lot(shape)):
                self.assertIs(type(helper.raised(part, shape, m, table, thing)), BadLot)
            if not helper.is_among(thing, helper.every_word(shape, (0, 1))):
                self.assertIs(type(helper.raised(cube, shape, m, table, (0, 1), thing)), BadWord)
            self.assertIs(type(helper.raised(judge_family, shape, m, table, thing)), BadFamily)
            self.assertIs(type(helper.raised(family_holds, shape, m, table, thing, thing)), BadFamily)

    def test_families_are_all_that_are_right(self):
        for shape in ((1,), (2, 2), (2, 2, 2)):
            right = helper.every_family(shape)
            table = (0,) * len(worlds(shape))
            lots = helper.every_lot(shape)
            for size in range(4):
                for thing in itertools.product(lots, repeat=size):
                    error = helper.raised(judge_family, shape, 0, table, thing)
                    self.assertEqual(type(error) is BadFamily, thing not in right, thing)


class Interface(unittest.TestCase):
    def test_each_function_is_defined_here(self):
        for name in ("cube", "part", "least_family", "judge_family", "family_holds"):
            self.assertEqual(getattr(cubes, name).__module__, "sightsums.cubes")


if __name__ == "__main__":
    unittest.main()
