"""Cubes and parts of a table, and the families of lots by which it is told [2.1 to 2.3]."""

from sightsums.errors import BadFamily
from sightsums.shapes import (
    all_places, are_lists_over, is_ascending, is_lot, is_tuple_of_lots, is_word, met_entry, met_sum,
    need_list, need_lot, need_modulus, need_shape, need_word, reduced, total, words_over,
)


def need_table(shape, m, table):
    """Raise the error of the first of shape, modulus and table that is none."""
    need_shape(shape)
    need_modulus(m)
    need_list(shape, m, all_places(shape), table)


def does_hold(big, small):
    """Whether the one lot has all places of the other one."""
    return all([place in big for place in small])


def is_held(family, lot):
    """Whether some lot of the family holds the lot."""
    return any([does_hold(big, lot) for big in family])


def is_family(shape, thing):
    """Whether any value is a family."""
    if not is_tuple_of_lots(shape, thing) or not is_ascending(thing):
        return False
    return all([one == other or not does_hold(one, other) for one in thing for other in thing])


def need_family(shape, family):
    """Raise BadFamily for any value that is no family of the shape."""
    if not is_family(shape, family):
        raise BadFamily(family)


def held_lots(lot):
    """All lots that the lot holds, in ascending order."""
    found = [()]
    for place in lot:
        found = found + [(*held, place) for held in found]
    return sorted(found)


def world_with(shape, lot, word, kept):
    """The world with the word's letters at the kept places of the lot, and first letters elsewhere."""
    letters = [0] * len(shape)
    for place, letter in zip(lot, word):
        if place in kept:
            letters[place] = letter
    return tuple(letters)


def signed_corners(shape, lot, word):
    """The pairs of a world and the 1 or -1 by which a table's entry there counts in the cube at the word."""
    found = []
    for kept in held_lots(lot):
        sign = 1 if (len(lot) - len(kept)) % 2 == 0 else -1
        found.append((world_with(shape, lot, word, kept), sign))
    return found


def cube_at(shape, m, table, lot, word):
    """The cube of the table at the word over the lot, all of them valid."""
    corners = signed_corners(shape, lot, word)
    return reduced(m, sum([sign * met_entry(shape, all_places(shape), table, world) for world, sign in corners]))


def part_for(shape, m, table, lot):
    """The part of the table for the lot, all of them valid."""
    return tuple([cube_at(shape, m, table, lot, word) for word in words_over(shape, lot)])


def cube(shape, m, table, lot, word):
    """The cube of the table at the word over the lot."""
    need_table(shape, m, table)
    need_lot(shape, lot)
    need_word(shape, lot, word)
    return cube_at(shape, m, table, lot, word)


def part(shape, m, table, lot):
    """The list over the lot that has the cube at each word."""
    need_table(shape, m, table)
    need_lot(shape, lot)
    return part_for(shape, m, table, lot)


def parts_but_zero(shape, m, table):
    """The pairs of a lot and its part, for all lots with a part other than 0, in ascending order."""
    pairs = [(lot, part_for(shape, m, table, lot)) for lot in held_lots(all_places(shape))]
    return [(lot, entries) for lot, entries in pairs if any(entries)]


def least_family(shape, m, table):
    """The lots with a part other than 0 that no other such lot holds."""
    need_table(shape, m, table)
    lots = [lot for lot, _ in parts_but_zero(shape, m, table)]
    return tuple([lot for lot in lots if not is_held([big for big in lots if big != lot], lot)])


def cube_certificate(shape, lot, entries):
    """The certificate with the first word at which the part for the lot is not 0."""
    found = [word for word, entry in zip(words_over(shape, lot), entries) if entry != 0]
    return ("cube", lot, found[0])


def first_holder(family, lot):
    """The first lot of the family that holds the lot, which some lot of it does."""
    holders = [big for big in family if does_hold(big, lot)]
    return holders[0]


def gathered(shape, m, family, parts, big):
    """The list over a lot of the family that is the sum of the parts that it takes."""
    # Several lots of the family may hold a part's lot, and the part is to be counted once.
    taken = [(lot, entries) for lot, entries in parts if first_holder(family, lot) == big]
    lots = [lot for lot, _ in taken]
    lists = [entries for _, entries in taken]
    corners = [world_with(shape, big, word, big) for word in words_over(shape, big)]
    return tuple([met_sum(shape, m, lots, lists, world) for world in corners])


def judge_family(shape, m, table, family):
    """Any certificate of [2.3]: lists by which the family tells the table, or a cube that shows it does not."""
    need_table(shape, m, table)
    need_family(shape, family)
    parts = parts_but_zero(shape, m, table)
    for lot, entries in parts:
        if not is_held(family, lot):
            return cube_certificate(shape, lot, entries)
    return ("lists", tuple([gathered(shape, m, family, parts, big) for big in family]))


def is_certificate(thing, kind, size):
    """Whether any value is a tuple of the size whose first item is the kind."""
    return isinstance(thing, tuple) and len(thing) == size and thing[0] == kind


def do_lists_tell(shape, m, table, family, lists):
    """Whether any value is a tuple of lists over the family's lots whose sum is the table."""
    return are_lists_over(shape, m, family, lists) and total(shape, m, family, lists) == table


def does_cube_bar(shape, m, table, family, lot, word):
    """Whether any values are a lot that no lot of the family holds, and a word whose cube is not 0."""
    if not is_lot(shape, lot) or is_held(family, lot) or not is_word(shape, lot, word):
        return False
    return cube_at(shape, m, table, lot, word) != 0


def family_holds(shape, m, table, family, thing):
    """Whether any value is a certificate of [2.3] about the table and the family."""
    need_table(shape, m, table)
    need_family(shape, family)
    if is_certificate(thing, "lists", 2):
        return do_lists_tell(shape, m, table, family, thing[1])
    if is_certificate(thing, "cube", 3):
        return does_cube_bar(shape, m, table, family, thing[1], thing[2])
    return False
