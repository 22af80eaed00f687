"""Worlds, lots and words of a shape, moduli and lists [1.1 to 1.3].

The functions whose names begin with need_ raise the errors; the document tells which of them comes first.
"""

from sightsums.errors import BadFamily, BadList, BadLot, BadModulus, BadShape, BadWord

MOST_PLACES = 4
MOST_LETTERS = 4


def is_plain_integer(thing):
    """Whether any value is an integer [0.2]."""
    # A bool is an int of Python's, but no integer of the document's.
    return isinstance(thing, int) and not isinstance(thing, bool)


def is_below(thing, bound):
    """Whether any value is an integer from 0 to below the bound."""
    return is_plain_integer(thing) and 0 <= thing < bound


def is_ascending(things):
    """Whether the items of a tuple stand in order, without repeats."""
    return all([low < high for low, high in zip(things, things[1:])])


def is_shape(thing):
    """Whether any value is a shape."""
    if not isinstance(thing, tuple) or not 1 <= len(thing) <= MOST_PLACES:
        return False
    return all([is_plain_integer(many) and 1 <= many <= MOST_LETTERS for many in thing])


def is_modulus(thing):
    """Whether any value is a modulus."""
    return is_plain_integer(thing) and (thing == 0 or thing >= 2)


def need_shape(shape):
    """Raise BadShape for any value that is no shape."""
    if not is_shape(shape):
        raise BadShape(shape)


def need_modulus(m):
    """Raise BadModulus for any value that is no modulus."""
    if not is_modulus(m):
        raise BadModulus(m)


def is_lot(shape, thing):
    """Whether any value is a lot of places of the shape."""
    need_shape(shape)
    if not isinstance(thing, tuple):
        return False
    return all([is_below(place, len(shape)) for place in thing]) and is_ascending(thing)


def need_lot(shape, lot):
    """Raise BadLot for any value that is no lot of the shape."""
    if not is_lot(shape, lot):
        raise BadLot(lot)


def all_places(shape):
    """The lot of all places."""
    return tuple(range(len(shape)))


def words_over(shape, lot):
    """The words over a valid lot, in ascending order."""
    found = [()]
    for place in lot:
        found = [(*word, letter) for word in found for letter in range(shape[place])]
    return tuple(found)


def worlds(shape):
    """All worlds of the shape, in ascending order."""
    need_shape(shape)
    return words_over(shape, all_places(shape))


def words(shape, lot):
    """All words over the lot, in ascending order."""
    need_shape(shape)
    need_lot(shape, lot)
    return words_over(shape, lot)


def is_word(shape, lot, thing):
    """Whether any value is a word over a valid lot."""
    if not isinstance(thing, tuple) or len(thing) != len(lot):
        return False
    return all([is_below(letter, shape[place]) for place, letter in zip(lot, thing)])


def need_word(shape, lot, word):
    """Raise BadWord for any value that is no word over a valid lot."""
    if not is_word(shape, lot, word):
        raise BadWord(word)


def letters_at(lot, world):
    """The word over a valid lot that has the world's letters."""
    return tuple([world[place] for place in lot])


def word_of(shape, lot, world):
    """The word of the world over the lot."""
    need_shape(shape)
    need_lot(shape, lot)
    need_word(shape, all_places(shape), world)
    return letters_at(lot, world)


def is_number(m, thing):
    """Whether any value is a number for a valid modulus."""
    if m == 0:
        return is_plain_integer(thing)
    return is_below(thing, m)


def reduced(m, integer):
    """The number that an integer is by the modulus."""
    if m == 0:
        return integer
    return integer % m


def many_words(shape, lot):
    """How many words there are over a valid lot."""
    many = 1
    for place in lot:
        many = many * shape[place]
    return many


def is_list_over(shape, m, lot, thing):
    """Whether any value is a list over a valid lot."""
    if not isinstance(thing, tuple) or len(thing) != many_words(shape, lot):
        return False
    return all([is_number(m, entry) for entry in thing])


def is_list(shape, m, lot, thing):
    """Whether any value is a list over the lot."""
    need_shape(shape)
    need_modulus(m)
    need_lot(shape, lot)
    return is_list_over(shape, m, lot, thing)


def need_list(shape, m, lot, entries):
    """Raise BadList for any value that is no list over a valid lot."""
    if not is_list_over(shape, m, lot, entries):
        raise BadList(entries)


def met_entry(shape, lot, entries, world):
    """The entry of a list over the lot at the world's word."""
    at = 0
    for place in lot:
        at = at * shape[place] + world[place]
    return entries[at]


def spread(shape, m, lot, entries):
    """The table whose entry at each world is the list's entry at the world's word."""
    need_shape(shape)
    need_modulus(m)
    need_lot(shape, lot)
    need_list(shape, m, lot, entries)
    return tuple([met_entry(shape, lot, entries, world) for world in worlds(shape)])


def is_tuple_of_lots(shape, thing):
    """Whether any value is a tuple of lots, perhaps with repeats, perhaps ()."""
    return isinstance(thing, tuple) and all([is_lot(shape, lot) for lot in thing])


def are_lists_over(shape, m, lots, thing):
    """Whether any value is a tuple of lists, one over each of the valid lots, in their order."""
    if not isinstance(thing, tuple) or len(thing) != len(lots):
        return False
    return all([is_list_over(shape, m, lot, entries) for lot, entries in zip(lots, thing)])


def met_sum(shape, m, lots, lists, world):
    """The sum of the entries of the lists, each over its lot, at the world's words."""
    return reduced(m, sum([met_entry(shape, lot, entries, world) for lot, entries in zip(lots, lists)]))


def total(shape, m, lots, lists):
    """The table that is the sum of the spread lists, each over its lot."""
    need_shape(shape)
    need_modulus(m)
    if not is_tuple_of_lots(shape, lots):
        raise BadFamily(lots)
    if not are_lists_over(shape, m, lots, lists):
        raise BadList(lists)
    return tuple([met_sum(shape, m, lots, lists, world) for world in worlds(shape)])
