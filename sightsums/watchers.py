"""What one who overhears the entries of some lists can tell apart, for a modulus other than 0 [8.1 to 8.3]."""

from sightsums.cubes import is_certificate
from sightsums.demands import kept_plan, need_demand, need_scheme
from sightsums.errors import BadLot, BadModulus
from sightsums.forms import diagonal_form
from sightsums.shapes import (
    all_places, is_ascending, is_below, is_modulus, met_entry, need_shape, need_word, reduced, worlds,
)
from sightsums.systems import bar_in, does_row_bar, is_solution, judge_form, many_in


def need_finite(shape, m):
    """Raise the error of the first of shape and modulus other than 0 that is none."""
    need_shape(shape)
    if not is_modulus(m) or m == 0:
        raise BadModulus(m)


def is_heard(scheme, thing):
    """Whether any value is an ascending tuple of positions of lists."""
    lots, _ = scheme
    if not isinstance(thing, tuple) or not all([is_below(item, len(lots)) for item in thing]):
        return False
    return is_ascending(thing)


def need_heard(scheme, heard):
    """Raise BadLot for any value that is no ascending tuple of positions of lists of a valid scheme."""
    if not is_heard(scheme, heard):
        raise BadLot(heard)


def need_watched(shape, m, scheme, demand, heard):
    """Raise the error of the first of shape, modulus, scheme, demand and heard lists that is none."""
    need_finite(shape, m)
    need_demand(shape, m, scheme, demand)
    need_heard(scheme, heard)


def need_two_worlds(shape, m, scheme, demand, heard, one, other):
    """Raise the error of the first argument that is wrong, or Barred if the demand can't be kept."""
    need_watched(shape, m, scheme, demand, heard)
    need_word(shape, all_places(shape), one)
    need_word(shape, all_places(shape), other)
    kept_plan(shape, m, scheme, demand)


def unheard_rows(scheme, heard):
    """For each sum the row of its multiples for the lists that are not heard."""
    _, sums = scheme
    return tuple([tuple([times for i, times in enumerate(multiples) if i not in heard]) for multiples in sums])


def differences(shape, m, demand, one, other):
    """The demand's numbers at the second world, less those at the first one."""
    lot = all_places(shape)
    return tuple([
        reduced(m, met_entry(shape, lot, table, other) - met_entry(shape, lot, table, one)) for table in demand
    ])


def judge_alike(shape, m, scheme, demand, heard, one, other):
    """Any certificate of [8.2]: numbers that make two worlds alike, or fractions that tell them apart."""
    need_two_worlds(shape, m, scheme, demand, heard, one, other)
    form = diagonal_form(unheard_rows(scheme, heard))
    kind, found = judge_form(m, form, differences(shape, m, demand, one, other))
    if kind == "row":
        return ("sum", found)
    return ("alike", found)


def alike_holds(shape, m, scheme, demand, heard, one, other, thing):
    """Whether any value is a certificate of [8.2] about the two worlds."""
    need_two_worlds(shape, m, scheme, demand, heard, one, other)
    rows, sides = unheard_rows(scheme, heard), differences(shape, m, demand, one, other)
    if is_certificate(thing, "alike", 2):
        return is_solution(m, rows, sides, thing[1])
    if is_certificate(thing, "sum", 2):
        return does_row_bar(m, rows, sides, thing[1])
    return False


def are_alike(shape, m, form, demand, one, other):
    """Whether two worlds are alike where the rows of the lists that are not heard have the form."""
    return bar_in(m, form, differences(shape, m, demand, one, other)) is None


def lots_alike(shape, m, scheme, demand, heard):
    """The ascending tuple of the lots of alike worlds; raises Barred if the demand can't be kept."""
    need_watched(shape, m, scheme, demand, heard)
    kept_plan(shape, m, scheme, demand)
    form = diagonal_form(unheard_rows(scheme, heard))
    found = []
    for world in worlds(shape):
        alike = [lot for lot in found if are_alike(shape, m, form, demand, lot[0], world)]
        if alike:
            alike[0].append(world)
        else:
            found.append([world])
    return tuple([tuple(lot) for lot in found])


def with_first_letter(world, place):
    """The world with the first letter at the place."""
    return (*world[:place], 0, *world[place + 1:])


def hidden_places(shape, m, scheme, demand, heard):
    """The ascending tuple of the hidden places; raises Barred if the demand can't be kept."""
    need_watched(shape, m, scheme, demand, heard)
    kept_plan(shape, m, scheme, demand)
    form = diagonal_form(unheard_rows(scheme, heard))
    found = []
    for place in all_places(shape):
        # What is alike to the same world is alike.
        pairs = [(with_first_letter(world, place), world) for world in worlds(shape)]
        if all([are_alike(shape, m, form, demand, one, other) for one, other in pairs]):
            found.append(place)
    return tuple(found)


def many_heard(shape, m, scheme, heard):
    """How many rows of entries can be heard at a world."""
    need_finite(shape, m)
    need_scheme(shape, m, scheme)
    need_heard(scheme, heard)
    _, sums = scheme
    # All that can be heard at a world are the loose rows of the sums, as far as the heard lists go; those that are 0
    # there are loose rows of the other lists.
    return many_in(m, diagonal_form(sums)) // many_in(m, diagonal_form(unheard_rows(scheme, heard)))
