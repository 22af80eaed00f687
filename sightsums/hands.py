"""Hands that tell one another what they see, needless lists, and least sights [7.1 to 7.3]."""

from sightsums.demands import can_keep, kept_plan, need_demand
from sightsums.errors import BadFamily, BadNumber, BadWeb
from sightsums.shapes import is_ascending, is_below, is_plain_integer, is_tuple_of_lots, need_shape


def is_telling(many, thing):
    """Whether any value is a pair of unlike positions of so many lists."""
    if not isinstance(thing, tuple) or len(thing) != 2:
        return False
    one, other = thing
    return is_below(one, many) and is_below(other, many) and one != other


def is_web(many, thing):
    """Whether any value is a web for so many lists."""
    if not isinstance(thing, tuple) or not all([is_telling(many, item) for item in thing]):
        return False
    return is_ascending(thing)


def need_web(many, web):
    """Raise BadWeb for any value that is no web for so many lists."""
    if not is_web(many, web):
        raise BadWeb(web)


def told_once(lots, web):
    """The lots behind one round."""
    found = [list(lot) for lot in lots]
    for one, other in web:
        # Places that are told in this round are told on in the next one only.
        found[other].extend(lots[one])
    return tuple([tuple(sorted(set(places))) for places in found])


def sights_by_rounds(lots, web):
    """The lots behind 0, 1 and more rounds, up to the number of rounds behind which nothing changes any more."""
    found = [lots]
    told = told_once(lots, web)
    while told != found[-1]:
        found.append(told)
        told = told_once(told, web)
    return found


def sights_after(shape, lots, web, k):
    """The lots behind k rounds."""
    need_shape(shape)
    if not is_tuple_of_lots(shape, lots):
        raise BadFamily(lots)
    need_web(len(lots), web)
    if not is_plain_integer(k) or k < 0:
        raise BadNumber(k)
    sights = sights_by_rounds(lots, web)
    return sights[min(k, len(sights) - 1)]


def least_rounds(shape, m, scheme, demand, web):
    """The least number of rounds behind which the demand can be kept, None if there is none."""
    need_demand(shape, m, scheme, demand)
    lots, sums = scheme
    need_web(len(lots), web)
    for many, sights in enumerate(sights_by_rounds(lots, web)):
        if can_keep(shape, m, (sights, sums), demand):
            return many
    return None


def scheme_without(scheme, at):
    """The scheme with the multiple 0 in all sums for the list at the position."""
    lots, sums = scheme
    return lots, tuple([(*multiples[:at], 0, *multiples[at + 1:]) for multiples in sums])


def needless(shape, m, scheme, demand):
    """The ascending tuple of the positions of needless lists; raises Barred if the demand can't be kept."""
    need_demand(shape, m, scheme, demand)
    kept_plan(shape, m, scheme, demand)
    lots, _ = scheme
    # A list may as well be 0 everywhere where it counts for nothing.
    return tuple([at for at in range(len(lots)) if can_keep(shape, m, scheme_without(scheme, at), demand)])


def lots_without(lots, at, place):
    """The lots with the place left out of the one at the position."""
    return (*lots[:at], tuple([other for other in lots[at] if other != place]), *lots[at + 1:])


def least_sights(shape, m, scheme, demand):
    """Any least sights; raises Barred if the demand can't be kept."""
    need_demand(shape, m, scheme, demand)
    kept_plan(shape, m, scheme, demand)
    lots, sums = scheme
    sights = lots
    for at, lot in enumerate(lots):
        for place in lot:
            fewer = lots_without(sights, at, place)
            if can_keep(shape, m, (fewer, sums), demand):
                sights = fewer
    return sights
