"""What the tests share: sample worlds and tables, values that are wrong, and how the errors are checked.

What is worked out here is worked out otherwise than in the package, so that the two can be compared.
"""

import copy
import functools
import itertools
import random

SHAPES = (
    (1,), (2,), (3,), (4,), (1, 1), (2, 2), (3, 2), (1, 4), (4, 1), (4, 4), (2, 2, 2), (3, 1, 2), (2, 3, 4),
    (4, 4, 4), (1, 1, 1, 1), (2, 2, 2, 2), (1, 2, 1, 3), (2, 4, 2, 4), (4, 4, 2, 2),
)
MODULI = (0, 2, 3, 4, 5, 6, 7, 12, 30, 97, 1024, 999983, 10 ** 12 - 11, 10 ** 12)

# Any values. A few of them are right somewhere: (0, 0) is a word of some shapes, and a list over some lots.
ODD_VALUES = (
    None, True, False, "", "lists", "cube", -1, 1, "0", [], [0], [1, 2], {}, {0: 1}, {"lists": ()},
    (None,), (True,), (False,), ("0",), ([],), ({},), (-1,), (0, None), (0, "1"), (0, [1]), ([0], [1]),
    ((True,),), ((0, True),), ((((0,),),),), (0, (1, (2, (3, [4, {"a": (5,)}])))),
    tuple(range(3000)), (10 ** 99,) * 70, "x" * 2000, (0, 0), (1, 0), (0, 1, 1), (0, 1, 2, 3, 4),
    ("lists",), ("cube",), ("lists", None), ("lists", ((True,),)), ("cube", None, None), ("cube", (0,), [1]),
    ("lists", [], []), ("cube", ()), ("cube", (0,), (0,), (0,)), ("bar", (0,), (1,), ((1, 2),)),
    ((), 1), (1, ()), ("lists", {}), ("cube", {}, {}), ([], [], []), ["lists", ()], ["cube", (0,), (1,)],
)
NO_SHAPES = (
    (), (2, 2, 2, 2, 2), (0,), (5,), (2, 0), (2, 5), (-1,), (True,), (2, True), (False, 2), [2, 2], [], {2: 2},
    2, None, "22", ("2",), ((2,),), (2, None), (2, [2]), True, {},
)
NO_MODULI = (1, -1, -2, -7, True, False, None, "2", (2,), [2], {}, ())


def every_lot(shape):
    """All lots of the shape, in ascending order."""
    places = range(len(shape))
    return sorted(lot for size in range(len(shape) + 1) for lot in itertools.combinations(places, size))


def every_word(shape, lot):
    return list(itertools.product(*[range(shape[place]) for place in lot]))


def every_world(shape):
    return every_word(shape, range(len(shape)))


@functools.lru_cache(maxsize=None)
def every_family(shape):
    """All ascending tuples of lots of which none holds another one."""
    lots = every_lot(shape)
    tuples = [some for size in range(len(lots) + 1) for some in itertools.combinations(lots, size)]
    return [some for some in tuples if not any(set(a) < set(b) for a in some for b in some)]


def is_among(thing, right):
    """Whether the thing is one of the right values; by what is written, since True == 1."""
    return repr(thing) in [repr(value) for value in right]


def is_row_of_numbers(m, many, thing):
    if type(thing) is not tuple or len(thing) != many:
        return False
    return all(type(entry) is int and made_by(m, entry) == entry for entry in thing)


def made_by(m, integer):
    return integer % m if m else integer


def some_number(rng, m):
    """A number: small or large, often 0, and of either sign for the modulus 0."""
    return made_by(m, rng.choice((0, 0, 1, -1, rng.randrange(-9, 10), rng.randrange(-10 ** 30 + 1, 10 ** 30))))


def some_list(rng, shape, m, lot):
    return tuple(some_number(rng, m) for _ in every_word(shape, lot))


def some_table(rng, shape, m):
    return some_list(rng, shape, m, range(len(shape)))


def spread_by_search(shape, lot, entries):
    """The table of a list, each entry looked up by its word."""
    met = dict(zip(every_word(shape, lot), entries))
    return [met[tuple(world[place] for place in lot)] for world in every_world(shape)]


def sum_by_search(shape, m, lots, lists):
    sums = [0] * len(every_world(shape))
    for lot, entries in zip(lots, lists):
        sums = [made_by(m, one + other) for one, other in zip(sums, spread_by_search(shape, lot, entries))]
    return tuple(sums)


def parts_by_removal(shape, m, table):
    """The part for each lot: what the table has at the lot's worlds beyond the parts for smaller lots."""
    entries = dict(zip(every_world(shape), table))
    parts = {}
    for lot in sorted(every_lot(shape), key=len):
        for word in every_word(shape, lot):
            letters = dict(zip(lot, word))
            rest = entries[tuple(letters.get(place, 0) for place in range(len(shape)))]
            for small in every_lot(shape):
                if set(small) < set(lot):
                    rest -= parts[small, tuple(letters[place] for place in small)]
            parts[lot, word] = made_by(m, rest)
    return {lot: tuple(parts[lot, word] for word in every_word(shape, lot)) for lot in every_lot(shape)}


def lots_with_parts(shape, m, table):
    return [lot for lot, entries in parts_by_removal(shape, m, table).items() if any(entries)]


def raised(function, *values, **named):
    """The error that the call raises, None if it raises none."""
    try:
        function(*values, **named)
    except Exception as error:
        return error
    return None


def check_errors(test, function, names, right, wrong):
    """Check each error of a function, alone and beside those that are listed behind it.

    right: valid arguments. wrong: for each position at fault, in the order of the document, the error class
    and values that are wrong there while the arguments ahead are valid.
    """
    test.assertIsNone(raised(function, *right))
    for many in range(1, len(wrong) + 1):
        for faults in itertools.combinations(wrong, many):
            first, *others = faults
            at, kind, values = first
            for value in values:
                given = list(right)
                for other, _, fillings in others:
                    given[other] = fillings[0]
                given[at] = value
                before = copy.deepcopy(given)
                for error in (raised(function, *given), raised(function, **dict(zip(names, given)))):
                    test.assertIs(type(error), kind, (function.__name__, given))
                    test.assertIs(error.thing, value)
                    test.assertEqual(vars(error), {"thing": before[at]})
                test.assertEqual(given, before)


def seeded(name):
    """The same numbers in each run."""
    return random.Random(name)
