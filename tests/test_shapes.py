"""Worlds, numbers and lists [0.2, 1.1, 1.2, 1.3]: sightsums.shapes."""

import itertools
import unittest

import helper
from sightsums import shapes
from sightsums.errors import BadFamily, BadList, BadLot, BadModulus, BadShape, BadWord
from sightsums.shapes import (
    is_list, is_lot, is_modulus, is_shape, spread, total, word_of, words, worlds,
)

BAD_LOTS = (
    (1, 0), (0, 0), (0, 1, 1), (2,), (-1,), (0, 2), (True,), (False, 1), (0, True), [0], [], 0, None, "0", {},
    ((0,),), (0, None), ("0",),
)
BAD_WORLDS = (
    (), (0,), (0, 0, 0), (2, 0), (0, 3), (-1, 0), (0, -1), (True, 0), (0, False), [0, 0], [], None, "00", 0,
    {0: 0, 1: 0}, ((0,), 0), ("0", 0), (0, None),
)
BAD_LISTS = (
    (), (1,), (1, 2), (1, 2, 3, 4), (1, 2, 5), (1, 2, -1), (1, 2, 6), (1, 2, True), (False, 1, 2), [1, 2, 3], [],
    None, "123", {}, 3, (1, 2, "3"), (1, 2, (3,)), (1, 2, [3]), ((1, 2, 3),),
)


class Predicates(unittest.TestCase):
    def test_is_shape(self):
        for size in range(1, 5):
            for shape in itertools.product((1, 2, 3, 4), repeat=size):
                self.assertIs(is_shape(shape), True)
        for thing in helper.NO_SHAPES:
            self.assertIs(is_shape(thing), False, thing)

    def test_is_shape_of_any_value(self):
        right = [shape for size in range(1, 5) for shape in itertools.product((1, 2, 3, 4), repeat=size)]
        for thing in helper.ODD_VALUES:
            self.assertIs(is_shape(thing), helper.is_among(thing, right), thing)
            self.assertIs(is_shape(thing=thing), is_shape(thing))

    def test_is_modulus(self):
        for m in (0, 2, 3, 4, 10, 999983, 10 ** 12, 10 ** 30, *helper.MODULI):
            self.assertIs(is_modulus(m), True)
        for thing in helper.NO_MODULI:
            self.assertIs(is_modulus(thing), False, thing)

    def test_is_modulus_of_any_value(self):
        for thing in helper.ODD_VALUES:
            self.assertIs(is_modulus(thing), False, thing)
            self.assertIs(is_modulus(thing=thing), False)

    def test_is_lot(self):
        for shape in helper.SHAPES:
            for lot in helper.every_lot(shape):
                self.assertIs(is_lot(shape, lot), True)
                self.assertIs(is_lot(shape=shape, thing=lot), True)
                self.assertIs(is_lot(shape, list(lot)), False)
                self.assertIs(is_lot(shape, (*lot, len(shape))), False)
                self.assertIs(is_lot(shape, (-1, *lot)), False)
                if lot:
                    self.assertIs(is_lot(shape, (lot[0], *lot)), False)
                if len(lot) > 1:
                    self.assertIs(is_lot(shape, lot[::-1]), False)
        for thing in BAD_LOTS:
            self.assertIs(is_lot((2, 3), thing), False, thing)

    def test_is_lot_of_any_value(self):
        for shape in helper.SHAPES:
            right = helper.every_lot(shape)
            for thing in helper.ODD_VALUES:
                self.assertIs(is_lot(shape, thing), helper.is_among(thing, right), thing)

    def test_is_list_of_right_lists(self):
        rng = helper.seeded("is_list")
        for shape in helper.SHAPES:
            for m in helper.MODULI:
                for lot in helper.every_lot(shape):
                    entries = helper.some_list(rng, shape, m, lot)
                    self.assertIs(is_list(shape, m, lot, entries), True)
                    self.assertIs(is_list(shape=shape, m=m, lot=lot, thing=entries), True)

    def test_is_list_with_one_fault(self):
        rng = helper.seeded("faults")
        for shape in helper.SHAPES:
            for m in helper.MODULI:
                for lot in helper.every_lot(shape):
                    entries = helper.some_list(rng, shape, m, lot)
                    at = rng.randrange(len(entries))
                    ahead, behind = entries[:at], entries[at + 1:]
                    for wrong in (None, True, False, "1", (1,), [1], {}):
                        self.assertIs(is_list(shape, m, lot, (*ahead, wrong, *behind)), False)
                    for beyond in (-1, m, m + 1, -m):
                        kept = helper.made_by(m, beyond) == beyond
                        self.assertIs(is_list(shape, m, lot, (*ahead, beyond, *behind)), kept)
                    for thing in ((*entries, 0), (0, *entries), entries[1:], entries[:-1], list(entries)):
                        self.assertIs(is_list(shape, m, lot, thing), False)

    def test_is_list_of_any_value(self):
        for shape, m in itertools.product(helper.SHAPES, (0, 2, 7)):
            for lot in helper.every_lot(shape):
                many = len(helper.every_word(shape, lot))
                for thing in helper.ODD_VALUES:
                    right = helper.is_row_of_numbers(m, many, thing)
                    self.assertIs(is_list(shape, m, lot, thing), right, thing)

    def test_predicates_leave_what_they_are_asked_about(self):
        for thing in ([0, [1]], {"a": [1]}, ([0], {0: 1})):
            before = repr(thing)
            for answer in (is_shape(thing), is_modulus(thing), is_lot((2,), thing), is_list((2,), 0, (), thing)):
                self.assertIs(answer, False)
            self.assertEqual(repr(thing), before)


class Words(unittest.TestCase):
    def test_worlds(self):
        for shape in helper.SHAPES:
            found = worlds(shape)
            self.assertIs(type(found), tuple)
            self.assertEqual(found, tuple(helper.every_world(shape)))
            self.assertEqual(worlds(shape=shape), found)
        self.assertEqual(worlds((1, 1, 1, 1)), ((0, 0, 0, 0),))
        self.assertEqual(worlds((3,)), ((0,), (1,), (2,)))
        self.assertEqual(worlds((1, 3)), ((0, 0), (0, 1), (0, 2)))
        self.assertEqual(len(worlds((4, 4, 4))), 64)

    def test_words(self):
        for shape in helper.SHAPES:
            for lot in helper.every_lot(shape):
                found = words(shape, lot)
                self.assertIs(type(found), tuple)
                self.assertEqual(found, tuple(helper.every_word(shape, lot)))
                self.assertEqual(list(found), sorted(found))
                self.assertEqual(words(shape=shape, lot=lot), found)
            self.assertEqual(words(shape, ()), ((),))
            self.assertEqual(words(shape, tuple(range(len(shape)))), worlds(shape))

    def test_word_of(self):
        for shape in helper.SHAPES:
            for lot in helper.every_lot(shape):
                for world in helper.every_world(shape):
                    found = word_of(shape, lot, world)
                    self.assertEqual(found, tuple(world[place] for place in lot))
                    self.assertIs(type(found), tuple)
                    self.assertEqual(word_of(shape=shape, lot=lot, world=world), found)
        self.assertEqual(word_of((4, 3, 2), (), (3, 2, 1)), ())
        self.assertEqual(word_of((4, 3, 2), (0, 1, 2), (3, 2, 1)), (3, 2, 1))
        self.assertEqual(word_of((4, 3, 2), (1, 2), (3, 2, 1)), (2, 1))


class Sums(unittest.TestCase):
    def test_spread(self):
        rng = helper.seeded("spread")
        for shape, m in itertools.product(helper.SHAPES, helper.MODULI):
            for lot in helper.every_lot(shape):
                entries = helper.some_list(rng, shape, m, lot)
                found = spread(shape, m, lot, entries)
                self.assertIs(type(found), tuple)
                self.assertEqual(found, tuple(helper.spread_by_search(shape, lot, entries)))
                self.assertEqual(spread(shape=shape, m=m, lot=lot, entries=entries), found)
            table = helper.some_table(rng, shape, m)
            self.assertEqual(spread(shape, m, tuple(range(len(shape))), table), table)
        self.assertEqual(spread((2, 3), 0, (), (10 ** 29,)), (10 ** 29,) * 6)
        self.assertEqual(spread((2, 3), 7, (0,), (5, 6)), (5, 5, 5, 6, 6, 6))
        self.assertEqual(spread((2, 3), 7, (1,), (4, 5, 6)), (4, 5, 6, 4, 5, 6))

    def test_total(self):
        rng = helper.seeded("total")
        for shape, m in itertools.product(helper.SHAPES, helper.MODULI):
            for many in (0, 1, 2, 5):
                lots = tuple(rng.choice(helper.every_lot(shape)) for _ in range(many))
                lists = tuple(helper.some_list(rng, shape, m, lot) for lot in lots)
                found = total(shape, m, lots, lists)
                self.assertIs(type(found), tuple)
                self.assertEqual(found, helper.sum_by_search(shape, m, lots, lists))
                self.assertEqual(total(shape=shape, m=m, lots=lots, lists=lists), found)
                self.assertEqual(total(shape, m, lots, lists), found)

    def test_total_of_no_lists_and_of_repeats(self):
        for shape, m in itertools.product(helper.SHAPES, helper.MODULI):
            self.assertEqual(total(shape, m, (), ()), (0,) * len(worlds(shape)))
        self.assertEqual(total((2,), 0, ((0,), (0,), (0,)), ((1, 2), (1, 2), (-1, 7))), (1, 11))
        self.assertEqual(total((2,), 3, ((0,), (), (0,)), ((1, 2), (2,), (1, 2))), (1, 0))
        self.assertEqual(total((2,), 10 ** 12, ((0,), ()), ((10 ** 12 - 1, 0), (1,))), (0, 1))
        self.assertEqual(total((1, 2), 0, ((1,), (0,)), ((-10 ** 29, 10 ** 29), (-1,))), (-10 ** 29 - 1, 10 ** 29 - 1))


class Errors(unittest.TestCase):
    """The lots, worlds and lists that are wrong here are so for the shape (2, 3), the modulus 5 and the lot (1,)."""

    def test_worlds(self):
        helper.check_errors(self, worlds, ("shape",), ((2, 3),), [(0, BadShape, helper.NO_SHAPES)])

    def test_is_lot(self):
        wrong = [(0, BadShape, helper.NO_SHAPES)]
        helper.check_errors(self, is_lot, ("shape", "thing"), ((2, 3), (1,)), wrong)
        helper.check_errors(self, is_lot, ("shape", "thing"), ((2, 3), [5]), wrong)

    def test_words(self):
        wrong = [(0, BadShape, helper.NO_SHAPES), (1, BadLot, BAD_LOTS)]
        helper.check_errors(self, words, ("shape", "lot"), ((2, 3), (1,)), wrong)

    def test_word_of(self):
        wrong = [(0, BadShape, helper.NO_SHAPES), (1, BadLot, BAD_LOTS), (2, BadWord, BAD_WORLDS)]
        helper.check_errors(self, word_of, ("shape", "lot", "world"), ((2, 3), (1,), (1, 2)), wrong)

    def test_is_list(self):
        wrong = [(0, BadShape, helper.NO_SHAPES), (1, BadModulus, helper.NO_MODULI), (2, BadLot, BAD_LOTS)]
        names = ("shape", "m", "lot", "thing")
        helper.check_errors(self, is_list, names, ((2, 3), 5, (1,), (1, 2, 3)), wrong)
        helper.check_errors(self, is_list, names, ((2, 3), 5, (1,), [[]]), wrong)

    def test_spread(self):
        wrong = [
            (0, BadShape, helper.NO_SHAPES), (1, BadModulus, helper.NO_MODULI), (2, BadLot, BAD_LOTS),
            (3, BadList, BAD_LISTS),
        ]
        names = ("shape", "m", "lot", "entries")
        helper.check_errors(self, spread, names, ((2, 3), 5, (1,), (1, 2, 4)), wrong)

    def test_total(self):
        bad_families = (
            None, [], [(0,)], 0, "", {}, (0,), ((0,), 1), ((0,), [1]), ([0], [1]), ((1, 0), (1,)), ((0,), (2,)),
            ((0,), (True,)), ((0, 0), (1,)), ((0,), None), (((0,),), ((1,),)),
        )
        bad_lists = (
            None, [], 0, "", {}, (), ((1, 2),), ((1, 2), (1, 2, 3), (1, 2)), [(1, 2), (1, 2, 3)],
            ((1, 2, 3), (1, 2)), *[((0, 4), thing) for thing in BAD_LISTS], ([1, 2], (1, 2, 3)),
            ((1, 5), (1, 2, 3)), ((1, True), (1, 2, 3)),
        )
        wrong = [
            (0, BadShape, helper.NO_SHAPES), (1, BadModulus, helper.NO_MODULI), (2, BadFamily, bad_families),
            (3, BadList, bad_lists),
        ]
        names = ("shape", "m", "lots", "lists")
        helper.check_errors(self, total, names, ((2, 3), 5, ((0,), (1,)), ((1, 2), (1, 2, 4))), wrong)
        self.assertIs(type(helper.raised(total, (2, 3), 5, (), ((1,),))), BadList)

    def test_any_value_that_is_none(self):
        shape, m = (2, 3), 0
        for thing in helper.ODD_VALUES:
            if not helper.is_among(thing, helper.every_lot(shape)):
                self.assertIs(helper.raised(words, shape, thing).thing, thing)
                self.assertIs(type(helper.raised(words, shape, thing)), BadLot)
                self.assertIs(type(helper.raised(spread, shape, m, thing, (1,))), BadLot)
            if not helper.is_among(thing, helper.every_world(shape)):
                self.assertIs(helper.raised(word_of, shape, (), thing).thing, thing)
                self.assertIs(type(helper.raised(word_of, shape, (), thing)), BadWord)
            if not helper.is_row_of_numbers(m, 2, thing):
                self.assertIs(helper.raised(spread, shape, m, (0,), thing).thing, thing)
                self.assertIs(type(helper.raised(spread, shape, m, (0,), thing)), BadList)
            self.assertIs(type(helper.raised(total, shape, m, thing, ())), BadFamily)
            self.assertIs(type(helper.raised(total, shape, m, ((0,), ()), thing)), BadList)

    def test_entries_at_the_edge_of_the_numbers(self):
        for m in helper.MODULI[1:]:
            self.assertEqual(spread((2,), m, (0,), (0, m - 1)), (0, m - 1))
            for entry in (m, -1):
                self.assertIs(type(helper.raised(spread, (2,), m, (0,), (0, entry))), BadList)
        self.assertEqual(spread((2,), 0, (0,), (-10 ** 29, 10 ** 29)), (-10 ** 29, 10 ** 29))


class Interface(unittest.TestCase):
    def test_each_function_is_defined_here(self):
        for name in ("is_shape", "is_modulus", "worlds", "is_lot", "words", "word_of", "is_list", "spread", "total"):
            self.assertEqual(getattr(shapes, name).__module__, "sightsums.shapes")


if __name__ == "__main__":
    unittest.main()
