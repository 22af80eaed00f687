"""Schemes, plans and demands at all worlds [4.1 to 4.3].

Parts are triples of a lot, a word over it without first letters, and a number for each list of the scheme. They make
up a plan: each list has its number wherever a world has the letters of the word.
"""

from sightsums.cubes import cube_at, does_hold, held_lots, is_certificate, world_with
from sightsums.errors import BadDemand, BadPlan, BadScheme, Barred
from sightsums.forms import diagonal_form, turned, weighted
from sightsums.shapes import (
    all_places, are_lists_over, is_list_over, is_lot, is_tuple_of_lots, is_word, letters_at, met_entry,
    need_lot, need_modulus, need_shape, need_word, reduced, words_over, worlds,
)
from sightsums.systems import does_row_bar, is_row_of_integers, judge_form, many_in

MOST_LISTS = 6
MOST_SUMS = 3


def are_sums(many, thing):
    """Whether any value is a tuple of one to three sums, each with so many multiples."""
    if not isinstance(thing, tuple) or not 1 <= len(thing) <= MOST_SUMS:
        return False
    return all([is_row_of_integers(many, multiples) for multiples in thing])


def is_scheme(shape, thing):
    """Whether any value is a scheme."""
    need_shape(shape)
    if not isinstance(thing, tuple) or len(thing) != 2:
        return False
    lots, sums = thing
    if not is_tuple_of_lots(shape, lots) or not 1 <= len(lots) <= MOST_LISTS:
        return False
    return are_sums(len(lots), sums)


def need_scheme(shape, m, scheme):
    """Raise the error of the first of shape, modulus and scheme that is none."""
    need_shape(shape)
    need_modulus(m)
    if not is_scheme(shape, scheme):
        raise BadScheme(scheme)


def is_plan(shape, m, scheme, thing):
    """Whether any value is a plan of a valid scheme."""
    lots, _ = scheme
    return are_lists_over(shape, m, lots, thing)


def is_demand(shape, m, scheme, thing):
    """Whether any value is a demand of a valid scheme."""
    _, sums = scheme
    if not isinstance(thing, tuple) or len(thing) != len(sums):
        return False
    return all([is_list_over(shape, m, all_places(shape), table) for table in thing])


def need_demand(shape, m, scheme, demand):
    """Raise the error of the first of shape, modulus, scheme and demand that is none."""
    need_scheme(shape, m, scheme)
    if not is_demand(shape, m, scheme, demand):
        raise BadDemand(demand)


def met_entries(shape, scheme, plan, world):
    """The entries of the plan's lists that are met at the world."""
    lots, _ = scheme
    return [met_entry(shape, lot, entries, world) for lot, entries in zip(lots, plan)]


def numbers_for(shape, m, scheme, plan, world):
    """The numbers of the demand of a valid plan at the world, one for each sum."""
    _, sums = scheme
    met = met_entries(shape, scheme, plan, world)
    return tuple([reduced(m, weighted(multiples, met)) for multiples in sums])


def demand_for(shape, m, scheme, plan):
    """The demand of a plan, both valid."""
    rows = [numbers_for(shape, m, scheme, plan, world) for world in worlds(shape)]
    return tuple([tuple(table) for table in turned(rows)])


def demand_of(shape, m, scheme, plan):
    """The demand of the plan: for each sum a table."""
    need_scheme(shape, m, scheme)
    if not is_plan(shape, m, scheme, plan):
        raise BadPlan(plan)
    return demand_for(shape, m, scheme, plan)


def small_rows(scheme, lot):
    """The rows of the small system of a lot: for each sum its multiples for the lists that see all of the lot."""
    lots, sums = scheme
    return tuple([
        tuple([multiple for multiple, big in zip(multiples, lots) if does_hold(big, lot)]) for multiples in sums
    ])


def small_sides(shape, m, demand, lot, word):
    """The sides of the small system of a lot and a word: the cubes of the demand's tables."""
    return tuple([cube_at(shape, m, table, lot, word) for table in demand])


def small_system(shape, m, scheme, demand, lot, word):
    """The small system of the lot and the word: the pair of its rows and its sides."""
    need_demand(shape, m, scheme, demand)
    need_lot(shape, lot)
    need_word(shape, lot, word)
    return small_rows(scheme, lot), small_sides(shape, m, demand, lot, word)


def full_words(shape, lot):
    """The words over the lot without first letters."""
    return [word for word in words_over(shape, lot) if 0 not in word]


def small_forms(shape, scheme):
    """For each lot the triple of it, the form of the rows of its small system, and its words without first letters."""
    lots = held_lots(all_places(shape))
    return [(lot, diagonal_form(small_rows(scheme, lot)), full_words(shape, lot)) for lot in lots]


def number_for_each(scheme, lot, row):
    """The numbers of a row for the lists that see all of the lot, with 0 between them for the other lists."""
    lots, _ = scheme
    found, used = [], 0
    for big in lots:
        if does_hold(big, lot):
            found.append(row[used])
            used = used + 1
        else:
            found.append(0)
    return found


def list_from(shape, m, lot, terms):
    """The list over the lot that has at each word the sum of the numbers of those terms whose letters it has.

    Terms are triples of a lot, a word over it without first letters, and a number; the number is 0 unless the list
    sees all of the term's lot.
    """
    entries = []
    for word in words_over(shape, lot):
        world = world_with(shape, lot, word, lot)
        entries.append(reduced(m, sum([number for held, told, number in terms if letters_at(held, world) == told])))
    return tuple(entries)


def plan_from(shape, m, scheme, parts):
    """The plan that is made up of the parts."""
    lots, _ = scheme
    plan = []
    for at, big in enumerate(lots):
        terms = [(lot, word, numbers[at]) for lot, word, numbers in parts if numbers[at] != 0]
        plan.append(list_from(shape, m, big, terms))
    return tuple(plan)


def judge_tables(shape, m, scheme, demand):
    """Any certificate of [4.2] about a valid demand."""
    parts = []
    for lot, form, full in small_forms(shape, scheme):
        for word in full:
            kind, row = judge_form(m, form, small_sides(shape, m, demand, lot, word))
            if kind == "row":
                return ("bar", lot, word, row)
            parts.append((lot, word, number_for_each(scheme, lot, row)))
    return ("lists", plan_from(shape, m, scheme, parts))


def judge_demand(shape, m, scheme, demand):
    """Any certificate of [4.2]: a plan that keeps the demand, or a row of fractions that bars a small system."""
    need_demand(shape, m, scheme, demand)
    return judge_tables(shape, m, scheme, demand)


def can_keep(shape, m, scheme, demand):
    """Whether a valid demand can be kept."""
    return judge_tables(shape, m, scheme, demand)[0] == "lists"


def kept_plan(shape, m, scheme, demand):
    """A plan that keeps a valid demand; raises Barred if there is none."""
    certificate = judge_tables(shape, m, scheme, demand)
    if certificate[0] == "bar":
        raise Barred(certificate)
    return certificate[1]


def does_keep(shape, m, scheme, demand, thing):
    """Whether any value is a plan that keeps the demand."""
    return is_plan(shape, m, scheme, thing) and demand_for(shape, m, scheme, thing) == demand


def does_bar(shape, m, scheme, demand, lot, word, fractions):
    """Whether any values are a lot, a word and a row of fractions that bars their small system."""
    if not is_lot(shape, lot) or not is_word(shape, lot, word):
        return False
    return does_row_bar(m, small_rows(scheme, lot), small_sides(shape, m, demand, lot, word), fractions)


def demand_holds(shape, m, scheme, demand, thing):
    """Whether any value is a certificate of [4.2] about the scheme and the demand."""
    need_demand(shape, m, scheme, demand)
    if is_certificate(thing, "lists", 2):
        return does_keep(shape, m, scheme, demand, thing[1])
    if is_certificate(thing, "bar", 4):
        return does_bar(shape, m, scheme, demand, thing[1], thing[2], thing[3])
    return False


def many_plans(shape, m, scheme):
    """The number of loose plans; for the modulus 0 the greatest number of free ones."""
    need_scheme(shape, m, scheme)
    counts = [(many_in(m, form), len(full)) for _, form, full in small_forms(shape, scheme)]
    if m == 0:
        return sum([count * times for count, times in counts])
    many = 1
    for count, times in counts:
        for _ in range(times):
            many = many * count
    return many
