"""Demands at some worlds alone: told worlds, further worlds, worlds that settle, and clashes [6.1 to 6.4].

A spot is a pair of the position of a list and a word over its lot: it stands for the list's entry there. What is asked
about some worlds makes a system: with a column for each spot, and a row for each of the worlds and each sum.
"""

from sightsums.cubes import is_certificate
from sightsums.demands import is_plan, need_scheme, numbers_for
from sightsums.errors import BadNumber, BadTold
from sightsums.forms import diagonal_form, weighted
from sightsums.ratios import are_multiples, are_shares, common_bottom, tops_over
from sightsums.shapes import (
    all_places, is_ascending, is_below, is_word, letters_at, need_word, words_over, worlds,
)
from sightsums.sure import do_give, given_tops
from sightsums.systems import is_row_of_numbers, judge_form, judge_weights, open_row


def is_told_world(shape, m, scheme, thing):
    """Whether any value is a pair of a world and one number for each sum."""
    _, sums = scheme
    if not isinstance(thing, tuple) or len(thing) != 2:
        return False
    world, numbers = thing
    return is_word(shape, all_places(shape), world) and is_row_of_numbers(m, len(sums), numbers)


def are_told_worlds(shape, m, scheme, thing):
    """Whether any value is told worlds for a valid scheme."""
    if not isinstance(thing, tuple) or not all([is_told_world(shape, m, scheme, item) for item in thing]):
        return False
    return is_ascending([world for world, _ in thing])


def need_told(shape, m, scheme, told):
    """Raise the error of the first of shape, modulus, scheme and told worlds that is none."""
    need_scheme(shape, m, scheme)
    if not are_told_worlds(shape, m, scheme, told):
        raise BadTold(told)


def are_worlds(shape, thing):
    """Whether any value is an ascending tuple of worlds."""
    if not isinstance(thing, tuple) or not all([is_word(shape, all_places(shape), item) for item in thing]):
        return False
    return is_ascending(thing)


def need_some(shape, m, scheme, some):
    """Raise the error of the first of shape, modulus, scheme and ascending tuple of worlds that is none."""
    need_scheme(shape, m, scheme)
    if not are_worlds(shape, some):
        raise BadTold(some)


def need_further(shape, m, scheme, some, world, e):
    """Raise the error of the first of shape, modulus, scheme, worlds, further world and position that is none."""
    need_some(shape, m, scheme, some)
    need_word(shape, all_places(shape), world)
    _, sums = scheme
    if not is_below(e, len(sums)):
        raise BadNumber(e)


def spots_at(scheme, world):
    """The spots that are met at the world, one for each list."""
    lots, _ = scheme
    return [(i, letters_at(lot, world)) for i, lot in enumerate(lots)]


def spots_of(scheme, some):
    """The ascending spots that are met at some worlds."""
    return sorted({spot for world in some for spot in spots_at(scheme, world)})


def row_at(scheme, spots, world, e):
    """For each spot its list's multiple in the sum e if it is met at the world, and 0 otherwise."""
    _, sums = scheme
    met = spots_at(scheme, world)
    return [sums[e][spot[0]] if spot in met else 0 for spot in spots]


def rows_at(scheme, spots, some):
    """The rows for each of some worlds and each sum."""
    _, sums = scheme
    return [row_at(scheme, spots, world, e) for world in some for e in range(len(sums))]


def form_at(scheme, spots, some):
    """The form of the rows for each of some worlds and each sum."""
    # A row of zeros asks for nothing; without worlds it stands for the rows, of which a form needs one.
    return diagonal_form(rows_at(scheme, spots, some) or [[0] * len(spots)])


def by_worlds(scheme, some, fractions):
    """The fractions in rows, one row for each of some worlds with one fraction for each sum."""
    _, sums = scheme
    many = len(sums)
    return tuple([tuple(fractions[at * many:(at + 1) * many]) for at in range(len(some))])


def plan_with(shape, scheme, spots, numbers):
    """The plan that has the numbers at the spots, and 0 elsewhere."""
    lots, _ = scheme
    entries = dict(zip(spots, numbers))
    return tuple([
        tuple([entries.get((i, word), 0) for word in words_over(shape, lot)]) for i, lot in enumerate(lots)
    ])


def judge_valid(shape, m, scheme, told):
    """Any certificate of [6.1] about valid told worlds."""
    some = [world for world, _ in told]
    spots = spots_of(scheme, some)
    sides = [number for _, numbers in told for number in numbers]
    kind, found = judge_form(m, form_at(scheme, spots, some), sides)
    if kind == "row":
        return ("weights", by_worlds(scheme, some, found))
    return ("lists", plan_with(shape, scheme, spots, found))


def judge_told(shape, m, scheme, told):
    """Any certificate of [6.1]: a plan that keeps the told worlds, or weights that bar them."""
    need_told(shape, m, scheme, told)
    return judge_valid(shape, m, scheme, told)


def does_plan_keep(shape, m, scheme, told, thing):
    """Whether any value is a plan that keeps the told worlds."""
    if not is_plan(shape, m, scheme, thing):
        return False
    return all([numbers_for(shape, m, scheme, thing, world) == numbers for world, numbers in told])


def triples_of(some, rows):
    """The triples of a world, the position of a sum and the fraction that the rows have for these two."""
    return [(world, e, fraction) for world, row in zip(some, rows) for e, fraction in enumerate(row)]


def are_weights(m, scheme, some, thing):
    """Whether any value is weights for some told worlds."""
    _, sums = scheme
    if not isinstance(thing, tuple) or len(thing) != len(some):
        return False
    return all([are_shares(m, len(sums), row) for row in thing])


def do_weights_bar(m, scheme, told, thing):
    """Whether any value is weights that bar the told worlds."""
    some = [world for world, _ in told]
    if not are_weights(m, scheme, some, thing):
        return False
    fractions = [fraction for row in thing for fraction in row]
    bottom = common_bottom(fractions)
    given = given_tops(scheme, triples_of(some, thing), bottom)
    if any([top % bottom != 0 for top in given.values()]):
        return False
    sides = [number for _, numbers in told for number in numbers]
    return weighted(tops_over(bottom, fractions), sides) % bottom != 0


def told_holds(shape, m, scheme, told, thing):
    """Whether any value is a certificate of [6.1] about the told worlds."""
    need_told(shape, m, scheme, told)
    if is_certificate(thing, "lists", 2):
        return does_plan_keep(shape, m, scheme, told, thing[1])
    if is_certificate(thing, "weights", 2):
        return do_weights_bar(m, scheme, told, thing[1])
    return False


def can_be_kept(shape, m, scheme, told):
    """Whether valid told worlds can be kept."""
    return judge_valid(shape, m, scheme, told)[0] == "lists"


def clash(shape, m, scheme, told):
    """Any clash of the told worlds, None if they can be kept."""
    need_told(shape, m, scheme, told)
    if can_be_kept(shape, m, scheme, told):
        return None
    found = list(range(len(told)))
    for at in range(len(told)):
        rest = [other for other in found if other != at]
        if not can_be_kept(shape, m, scheme, [told[k] for k in rest]):
            found = rest
    return tuple(found)


def judge_further(shape, m, scheme, some, world, e):
    """Any certificate of [6.2]: multiples of the told worlds' numbers, or a plan that shows the number to be open."""
    need_further(shape, m, scheme, some, world, e)
    spots = spots_of(scheme, (*some, world))
    kind, found = judge_weights(m, form_at(scheme, spots, some), row_at(scheme, spots, world, e))
    if kind == "open":
        return ("open", plan_with(shape, scheme, spots, found))
    return ("told", by_worlds(scheme, some, found))


def do_rows_tell(m, scheme, some, world, e, thing):
    """Whether any value is rows of multiples that give the number at the further world in the sum e."""
    _, sums = scheme
    if not isinstance(thing, tuple) or len(thing) != len(some):
        return False
    if not all([are_multiples(m, len(sums), row) for row in thing]):
        return False
    asked = [(i, word, sums[e][i]) for i, word in spots_at(scheme, world)]
    return do_give(m, scheme, triples_of(some, thing), asked)


def does_plan_open(shape, m, scheme, some, world, e, thing):
    """Whether any value is a plan whose demand is 0 at some worlds, and not at the further one in the sum e."""
    if not is_plan(shape, m, scheme, thing):
        return False
    if any([any(numbers_for(shape, m, scheme, thing, told)) for told in some]):
        return False
    return numbers_for(shape, m, scheme, thing, world)[e] != 0


def further_holds(shape, m, scheme, some, world, e, thing):
    """Whether any value is a certificate of [6.2] about the further world and the position of a sum."""
    need_further(shape, m, scheme, some, world, e)
    if is_certificate(thing, "told", 2):
        return do_rows_tell(m, scheme, some, world, e, thing[1])
    if is_certificate(thing, "open", 2):
        return does_plan_open(shape, m, scheme, some, world, e, thing[1])
    return False


def do_settle(shape, m, scheme, some):
    """Whether valid worlds settle the scheme."""
    every = worlds(shape)
    spots = spots_of(scheme, every)
    form = form_at(scheme, spots, some)
    return all([open_row(m, form, row) is None for row in rows_at(scheme, spots, every)])


def does_settle(shape, m, scheme, some):
    """Whether all numbers at all worlds are sure by those at some."""
    need_some(shape, m, scheme, some)
    return do_settle(shape, m, scheme, some)


def settling(shape, m, scheme, some):
    """Any ascending tuple of worlds that has all of some and settles, and no one beside them that could be left out."""
    need_some(shape, m, scheme, some)
    found = list(worlds(shape))
    for world in worlds(shape):
        rest = [other for other in found if other != world]
        if world not in some and do_settle(shape, m, scheme, rest):
            found = rest
    return tuple(found)
