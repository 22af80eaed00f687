"""What the tests share: samples, values that are wrong, what the document's words say of a certificate, and how the
errors are checked.

What is worked out here is worked out otherwise than in the package, so that the two can be compared.
"""

import copy
import functools
import itertools
import math
import random
from fractions import Fraction

from sightsums.errors import Barred

SHAPES = (
    (1,), (2,), (3,), (4,), (1, 1), (2, 2), (3, 2), (1, 4), (4, 1), (4, 4), (2, 2, 2), (3, 1, 2), (2, 3, 4),
    (4, 4, 4), (1, 1, 1, 1), (2, 2, 2, 2), (1, 2, 1, 3), (2, 4, 2, 4), (4, 4, 2, 2),
)
MODULI = (0, 2, 3, 4, 5, 6, 7, 12, 30, 97, 1024, 999983, 10 ** 12 - 11, 10 ** 12)

# Any values. A few of them are right somewhere: (0, 0) is a word of some shapes, and a list over some lots.
ODD_VALUES = (
    None, True, False, "", "lists", "cube", -1, 1, "0", [], [0], [1, 2], {}, {0: 1}, {"lists": ()},
    (None,), (True,), (False,), ("0",), ([],), ({},), (-1,), (0, None), (0, "1"), (0, [1]), ([0], [1]),
    ((True,),), ((0, True),), ((((0,),),),), (0, (1, (2, (3, [4, {"a": (5,)}])))),
    tuple(range(3000)), (10 ** 99,) * 70, "x" * 2000, (0, 0), (1, 0), (0, 1, 1), (0, 1, 2, 3, 4),
    ("lists",), ("cube",), ("lists", None), ("lists", ((True,),)), ("cube", None, None), ("cube", (0,), [1]),
    ("lists", [], []), ("cube", ()), ("cube", (0,), (0,), (0,)), ("bar", (0,), (1,), ((1, 2),)),
    ((), 1), (1, ()), ("lists", {}), ("cube", {}, {}), ([], [], []), ["lists", ()], ["cube", (0,), (1,)],
)
# Values that look like certificates, to be tried as ODD_VALUES are.
KINDS = ("solution", "row", "told", "open", "lists", "bar", "cube", "weights", "alike", "sum")
ODD_CERTIFICATES = (
    *[(kind,) for kind in KINDS], *[(kind, None) for kind in KINDS], *[(kind, [()]) for kind in KINDS],
    *[(kind, {"a": [(1, 2)]}) for kind in KINDS], *[[kind, ((0, 1),)] for kind in KINDS],
    *[(kind, "((1, 2),)") for kind in KINDS], *[(kind, ((1, 2), [1, 2])) for kind in KINDS],
    *[(kind, ((0, 2), (1, 0), (True, 2), (1, -2), (1, 2, 3))) for kind in KINDS],
    *[(kind, (((0, 0), 0, (1, 0)), ((0, 0), None, [1, 2]))) for kind in KINDS], *[(kind, kind, kind) for kind in KINDS],
    ("bar", None, None, None), ("bar", [], [], []), ("bar", (0,), (1,), ((1, 2), (1, 2), (1, 2), (1, 2), (1, 2))),
    ("bar", (0,), (True,), ((1, 2),)), ("bar", (0, 1), (1, 1)), ("bar", {}, {}, {}, {}), ("bar", (9,), (9,), ((1, 2),)),
    ("told", ((((((((((1,),),),),),),),),),)), ("row", tuple((1, k + 2) for k in range(900))),
    ("solution", (10 ** 99,) * 60), ("told", ((10 ** 99, 10 ** 98),) * 4), ("row", ((10 ** 98, 10 ** 99),) * 4),
)
NO_SHAPES = (
    (), (2, 2, 2, 2, 2), (0,), (5,), (2, 0), (2, 5), (-1,), (True,), (2, True), (False, 2), [2, 2], [], {2: 2},
    2, None, "22", ("2",), ((2,),), (2, None), (2, [2]), True, {},
)
NO_MODULI = (1, -1, -2, -7, True, False, None, "2", (2,), [2], {}, ())


def every_lot(shape):
    """All lots of the shape, in ascending order."""
    places = range(len(shape))
    return sorted(lot for size in range(len(shape) + 1) for lot in itertools.combinations(places, size))


def every_word(shape, lot):
    return list(itertools.product(*[range(shape[place]) for place in lot]))


def every_world(shape):
    return every_word(shape, range(len(shape)))


@functools.lru_cache(maxsize=None)
def every_family(shape):
    """All ascending tuples of lots of which none holds another one."""
    lots = every_lot(shape)
    tuples = [some for size in range(len(lots) + 1) for some in itertools.combinations(lots, size)]
    return [some for some in tuples if not any(set(a) < set(b) for a in some for b in some)]


def is_among(thing, right):
    """Whether the thing is one of the right values; by what is written, since True == 1."""
    return repr(thing) in [repr(value) for value in right]


def is_row_of_numbers(m, many, thing):
    if type(thing) is not tuple or len(thing) != many:
        return False
    return all(type(entry) is int and made_by(m, entry) == entry for entry in thing)


def made_by(m, integer):
    return integer % m if m else integer


def some_number(rng, m):
    """A number: small or large, often 0, and of either sign for the modulus 0."""
    return made_by(m, rng.choice((0, 0, 1, -1, rng.randrange(-9, 10), rng.randrange(-10 ** 30 + 1, 10 ** 30))))


def some_list(rng, shape, m, lot):
    return tuple(some_number(rng, m) for _ in every_word(shape, lot))


def some_table(rng, shape, m):
    return some_list(rng, shape, m, range(len(shape)))


def spread_by_search(shape, lot, entries):
    """The table of a list, each entry looked up by its word."""
    met = dict(zip(every_word(shape, lot), entries))
    return [met[tuple(world[place] for place in lot)] for world in every_world(shape)]


def sum_by_search(shape, m, lots, lists):
    sums = [0] * len(every_world(shape))
    for lot, entries in zip(lots, lists):
        sums = [made_by(m, one + other) for one, other in zip(sums, spread_by_search(shape, lot, entries))]
    return tuple(sums)


@functools.lru_cache(maxsize=None)
def parts_by_removal(shape, m, table):
    """The part for each lot: what the table has at the lot's worlds beyond the parts for smaller lots."""
    entries = dict(zip(every_world(shape), table))
    parts = {}
    for lot in sorted(every_lot(shape), key=len):
        for word in every_word(shape, lot):
            letters = dict(zip(lot, word))
            rest = entries[tuple(letters.get(place, 0) for place in range(len(shape)))]
            for small in every_lot(shape):
                if set(small) < set(lot):
                    rest -= parts[small, tuple(letters[place] for place in small)]
            parts[lot, word] = made_by(m, rest)
    return {lot: tuple(parts[lot, word] for word in every_word(shape, lot)) for lot in every_lot(shape)}


def lots_with_parts(shape, m, table):
    return [lot for lot, entries in parts_by_removal(shape, m, table).items() if any(entries)]


def is_integer(thing):
    return type(thing) is int


def is_fraction(thing):
    if type(thing) is not tuple or len(thing) != 2 or not all(is_integer(item) for item in thing):
        return False
    return thing[1] >= 1 and math.gcd(*thing) == 1


def is_share_row(m, many, thing):
    """Whether the thing is a row of so many fractions [3.2]."""
    if type(thing) is not tuple or len(thing) != many or not all(is_fraction(item) for item in thing):
        return False
    return all(0 <= Fraction(*item) < 1 and (m == 0 or m // item[1] * item[1] == m) for item in thing)


def is_multiple(m, thing):
    """Whether the thing is a fraction, for a modulus other than 0 a number by it over 1 [3.4]."""
    return is_fraction(thing) and (m == 0 or (thing[1] == 1 and 0 <= thing[0] < m))


def is_kind(thing, kind, size):
    return type(thing) is tuple and len(thing) == size and type(thing[0]) is str and thing[0] == kind


def row_sums(rows, row):
    return [sum(a * b for a, b in zip(one, row)) for one in rows]


def is_right_solution(m, rows, sides, thing):
    if not is_row_of_numbers(m, len(rows[0]), thing):
        return False
    return all(made_by(m, found - side) == 0 for found, side in zip(row_sums(rows, thing), sides))


def is_right_bar(m, rows, sides, thing):
    """Whether the thing is a row of fractions that bars the rows and sides [3.2]."""
    if not is_share_row(m, len(rows), thing):
        return False
    shares = [Fraction(*item) for item in thing]
    columns = [[row[k] for row in rows] for k in range(len(rows[0]))]
    wholes = [found.denominator == 1 for found in row_sums(columns, shares)]
    return all(wholes) and sum(a * b for a, b in zip(shares, sides)).denominator != 1


def is_right_for_system(m, rows, sides, thing):
    if is_kind(thing, "solution", 2):
        return is_right_solution(m, rows, sides, thing[1])
    return is_kind(thing, "row", 2) and is_right_bar(m, rows, sides, thing[1])


def is_right_for_sure(m, rows, weights, thing):
    if is_kind(thing, "open", 2):
        if not is_right_solution(m, rows, [0] * len(rows), thing[1]):
            return False
        return made_by(m, sum(a * b for a, b in zip(weights, thing[1]))) != 0
    if not is_kind(thing, "told", 2) or type(thing[1]) is not tuple or len(thing[1]) != len(rows):
        return False
    if not all(is_multiple(m, item) for item in thing[1]):
        return False
    shares = [Fraction(*item) for item in thing[1]]
    columns = [[row[k] for row in rows] for k in range(len(weights))]
    return all(made_by(m, found - c) == 0 for found, c in zip(row_sums(columns, shares), weights))


def every_share_row(m, many):
    """All rows of fractions with bottoms that divide a modulus other than 0."""
    shares = [Fraction(top, m) for top in range(m)]
    return list(itertools.product([(share.numerator, share.denominator) for share in shares], repeat=many))


def every_row(m, many):
    return list(itertools.product(range(m), repeat=many))


def rank(rows):
    """The rank of rows of integers or fractions."""
    rows, found = [[Fraction(item) for item in row] for row in rows], 0
    while rows and rows[0]:
        heads = [row for row in rows if row[0] != 0]
        if heads:
            found += 1
            rest = [row for row in rows if row is not heads[0]]
            rows = [[b - a * row[0] / heads[0][0] for a, b in zip(heads[0], row)] for row in rest]
        rows = [row[1:] for row in rows]
    return found


def some_rows(rng, high, many, size):
    """Rows of integers up to the high one: of any kind, with many zeros, or multiples of few rows."""
    style = rng.randrange(4)
    if style == 0:
        return tuple(tuple(rng.choice((0, 0, 1, -1, high, -high)) for _ in range(size)) for _ in range(many))
    if style == 1:
        one = [rng.randint(-3, 3) for _ in range(size)]
        return tuple(tuple(times * item for item in one) for times in (rng.randint(-3, 3) for _ in range(many)))
    return tuple(tuple(rng.randint(-high, high) for _ in range(size)) for _ in range(many))


def is_plan(shape, m, scheme, thing):
    if type(thing) is not tuple or len(thing) != len(scheme[0]):
        return False
    return all(is_row_of_numbers(m, len(every_word(shape, lot)), one) for lot, one in zip(scheme[0], thing))


def demand_by_search(shape, m, scheme, plan):
    """The demand of a plan, each entry looked up by its word."""
    tables = [spread_by_search(shape, lot, entries) for lot, entries in zip(scheme[0], plan)]
    return tuple(
        tuple(made_by(m, sum(a * b for a, b in zip(sums, met))) for met in zip(*tables)) for sums in scheme[1]
    )


def small_by_words(shape, m, scheme, demand, lot, word):
    """The small system of the lot and the word [4.2]."""
    rows = tuple(tuple(a for a, big in zip(sums, scheme[0]) if set(lot) <= set(big)) for sums in scheme[1])
    at = every_word(shape, lot).index(word)
    return rows, tuple(parts_by_removal(shape, m, table)[lot][at] for table in demand)


def is_right_for_demand(shape, m, scheme, demand, thing):
    if is_kind(thing, "lists", 2):
        return is_plan(shape, m, scheme, thing[1]) and demand_by_search(shape, m, scheme, thing[1]) == demand
    if not is_kind(thing, "bar", 4) or not is_among(thing[1], every_lot(shape)):
        return False
    if not is_among(thing[2], every_word(shape, thing[1])):
        return False
    return is_right_bar(m, *small_by_words(shape, m, scheme, demand, thing[1], thing[2]), thing[3])


def asked_by_search(shape, m, scheme, question, plan):
    """The sum of c times the entry of the list i at the word, over the question's triples."""
    met = [dict(zip(every_word(shape, lot), entries)) for lot, entries in zip(scheme[0], plan)]
    return made_by(m, sum(c * met[i][word] for i, word, c in question))


def given_by_words(shape, scheme, triples):
    """What triples of a world, a position and a fraction give to each list's entries [5.2]."""
    given = {(i, word): Fraction(0) for i, lot in enumerate(scheme[0]) for word in every_word(shape, lot)}
    for world, e, multiple in triples:
        for i, lot in enumerate(scheme[0]):
            given[i, tuple(world[place] for place in lot)] += Fraction(*multiple) * scheme[1][e][i]
    return given


def is_right_for_question(shape, m, scheme, question, thing):
    if is_kind(thing, "open", 2):
        if not is_plan(shape, m, scheme, thing[1]):
            return False
        if any(map(any, demand_by_search(shape, m, scheme, thing[1]))):
            return False
        return asked_by_search(shape, m, scheme, question, thing[1]) != 0
    if not is_kind(thing, "told", 2) or type(thing[1]) is not tuple:
        return False
    for item in thing[1]:
        if type(item) is not tuple or len(item) != 3 or not is_among(item[0], every_world(shape)):
            return False
        if not is_among(item[1], range(len(scheme[1]))) or not is_multiple(m, item[2]):
            return False
    spots = [item[:2] for item in thing[1]]
    if sorted(thing[1]) != list(thing[1]) or len(set(spots)) != len(spots):
        return False
    given = given_by_words(shape, scheme, thing[1])
    for i, word, c in question:
        given[i, word] -= c
    return all(made_by(m, rest) == 0 for rest in given.values())


def numbers_by_search(shape, m, scheme, plan):
    """For each world the numbers of the plan's demand there, one for each sum."""
    return dict(zip(every_world(shape), zip(*demand_by_search(shape, m, scheme, plan))))


def given_by_rows(shape, scheme, some, rows):
    """What rows of fractions, one for each of some worlds, give to each list's entries [6.1, 6.2]."""
    triples = [(world, e, one) for world, row in zip(some, rows) for e, one in enumerate(row)]
    return given_by_words(shape, scheme, triples)


def is_right_for_told(shape, m, scheme, told, thing):
    if is_kind(thing, "lists", 2):
        if not is_plan(shape, m, scheme, thing[1]):
            return False
        found = numbers_by_search(shape, m, scheme, thing[1])
        return all(found[world] == numbers for world, numbers in told)
    if not is_kind(thing, "weights", 2) or type(thing[1]) is not tuple or len(thing[1]) != len(told):
        return False
    if not all(is_share_row(m, len(scheme[1]), row) for row in thing[1]):
        return False
    given = given_by_rows(shape, scheme, [world for world, _ in told], thing[1])
    if any(one.denominator != 1 for one in given.values()):
        return False
    parts = [Fraction(*one) * k for row, (_, numbers) in zip(thing[1], told) for one, k in zip(row, numbers)]
    return Fraction(sum(parts)).denominator != 1


def is_right_for_further(shape, m, scheme, some, world, e, thing):
    if is_kind(thing, "open", 2):
        if not is_plan(shape, m, scheme, thing[1]):
            return False
        found = numbers_by_search(shape, m, scheme, thing[1])
        return not any(any(found[told]) for told in some) and found[world][e] != 0
    if not is_kind(thing, "told", 2) or type(thing[1]) is not tuple or len(thing[1]) != len(some):
        return False
    for row in thing[1]:
        if type(row) is not tuple or len(row) != len(scheme[1]) or not all(is_multiple(m, one) for one in row):
            return False
    given = given_by_rows(shape, scheme, some, thing[1])
    for i, lot in enumerate(scheme[0]):
        given[i, tuple(world[place] for place in lot)] -= scheme[1][e][i]
    return all(made_by(m, rest) == 0 for rest in given.values())


def unheard_system(shape, m, scheme, demand, heard, one, other):
    """The rows of the lists that are not heard, and the differences of the demand's numbers [8.2]."""
    rows = tuple(tuple(a for i, a in enumerate(sums) if i not in heard) for sums in scheme[1])
    at, to = every_world(shape).index(one), every_world(shape).index(other)
    return rows, tuple(made_by(m, table[to] - table[at]) for table in demand)


def is_right_for_alike(shape, m, scheme, demand, heard, one, other, thing):
    rows, sides = unheard_system(shape, m, scheme, demand, heard, one, other)
    if is_kind(thing, "alike", 2):
        return is_right_solution(m, rows, sides, thing[1])
    return is_kind(thing, "sum", 2) and is_right_bar(m, rows, sides, thing[1])


def sights_by_paths(lots, web, k):
    """The lots behind k rounds: a list sees the places of each list from which at most k steps lead to it."""
    lists = range(len(lots))
    steps = {(a, b): 0 if a == b else 1 if (a, b) in web else math.inf for a in lists for b in lists}
    for c, a, b in itertools.product(lists, repeat=3):
        steps[a, b] = min(steps[a, b], steps[a, c] + steps[c, b])
    return tuple(tuple(sorted({place for a in lists if steps[a, b] <= k for place in lots[a]})) for b in lists)


def check_barred(test, function, shape, m, scheme, demand, *others):
    """Check that a function raises Barred with a right bar of the demand."""
    error = raised(function, shape, m, scheme, demand, *others)
    test.assertIs(type(error), Barred, function.__name__)
    test.assertEqual(list(vars(error)), ["certificate"])
    test.assertEqual(error.certificate[0], "bar")
    test.assertTrue(is_right_for_demand(shape, m, scheme, demand, error.certificate))


def some_scheme(rng, shape, lists, sums, high):
    """A scheme with multiples up to the high one, among them often 0 and one of the few below 0."""
    lots = tuple(rng.choice(every_lot(shape)) for _ in range(lists))
    return lots, some_rows(rng, high, sums, lists)


def some_plan(rng, shape, m, scheme):
    return tuple(some_list(rng, shape, m, lot) for lot in scheme[0])


def every_plan(shape, m, scheme):
    """All plans, for a modulus other than 0."""
    return list(itertools.product(*[every_row(m, len(every_word(shape, lot))) for lot in scheme[0]]))


def spoiled(thing):
    """Copies of a nested tuple, each with one thing changed, left out, repeated, exchanged or put in another dress."""
    if type(thing) is not tuple:
        yield from (None, [thing], str(thing), (thing,))
        if type(thing) is int:
            yield from (thing + 1, thing - 1, -thing - 1, bool(thing), 10 ** 99)
        return
    yield list(thing)
    yield thing + (0,)
    for k, item in enumerate(thing):
        yield thing[:k] + thing[k + 1:]
        yield thing[:k] + (item,) + thing[k:]
        if k and thing[k] != thing[k - 1]:
            yield thing[:k - 1] + (item, thing[k - 1]) + thing[k + 1:]
        for other in spoiled(item):
            yield thing[:k] + (other,) + thing[k + 1:]


def check_spoiled(test, holds, is_right, given, thing, rng=None, many=200):
    """Check that a function accepts a spoiled certificate exactly if the words of the document do."""
    things = [other for other in spoiled(thing) if repr(other) != repr(thing)]
    if rng is not None and len(things) > many:
        things = rng.sample(things, many)
    for other in things:
        test.assertIs(holds(*given, other), is_right(*given, other), (holds.__name__, given, other))


def raised(function, *values, **named):
    """The error that the call raises, None if it raises none."""
    try:
        function(*values, **named)
    except Exception as error:
        return error
    return None


def check_errors(test, function, names, right, wrong):
    """Check each error of a function, alone and beside those that are listed behind it.

    right: valid arguments. wrong: for each position at fault, in the order of the document, the error class
    and values that are wrong there while the arguments ahead are valid.
    """
    test.assertIsNone(raised(function, *right))
    for many in range(1, len(wrong) + 1):
        for faults in itertools.combinations(wrong, many):
            first, *others = faults
            at, kind, values = first
            for value in values:
                given = list(right)
                for other, _, fillings in others:
                    given[other] = fillings[0]
                given[at] = value
                before = copy.deepcopy(given)
                for error in (raised(function, *given), raised(function, **dict(zip(names, given)))):
                    test.assertIs(type(error), kind, (function.__name__, given))
                    test.assertIs(error.thing, value)
                    test.assertEqual(vars(error), {"thing": before[at]})
                test.assertEqual(given, before)


def seeded(name):
    """The same numbers in each run."""
    return random.Random(name)
