"""What is sure of the entries of all plans that keep a demand [5.1, 5.2]."""

from sightsums.cubes import does_hold, is_certificate, signed_corners, world_with
from sightsums.demands import (
    demand_for, is_plan, is_scheme, kept_plan, need_demand, need_scheme, number_for_each, plan_from, small_forms,
)
from sightsums.errors import BadQuestion, BadScheme
from sightsums.ratios import as_fraction, common_bottom, is_multiple, tops_over
from sightsums.shapes import (
    all_places, is_ascending, is_below, is_plain_integer, is_word, letters_at, met_entry, need_shape, reduced,
)
from sightsums.systems import judge_weights


def is_triple(thing):
    """Whether any value is a tuple of three items."""
    return isinstance(thing, tuple) and len(thing) == 3


def is_asked(shape, scheme, thing):
    """Whether any value is a triple of the position of a list, a word over its lot, and an integer."""
    lots, _ = scheme
    if not is_triple(thing) or not is_below(thing[0], len(lots)):
        return False
    i, word, c = thing
    return is_word(shape, lots[i], word) and is_plain_integer(c)


def is_valid_question(shape, scheme, thing):
    """Whether any value is a question about a valid scheme."""
    if not isinstance(thing, tuple) or not all([is_asked(shape, scheme, item) for item in thing]):
        return False
    return is_ascending(tuple([(i, word) for i, word, _ in thing]))


def is_question(shape, scheme, thing):
    """Whether any value is a question about the scheme."""
    need_shape(shape)
    if not is_scheme(shape, scheme):
        raise BadScheme(scheme)
    return is_valid_question(shape, scheme, thing)


def need_question(shape, scheme, question):
    """Raise BadQuestion for any value that is no question about a valid scheme."""
    if not is_valid_question(shape, scheme, question):
        raise BadQuestion(question)


def world_asked(shape, scheme, i, word):
    """A world with the word over the lot of the list i."""
    lots, _ = scheme
    return world_with(shape, lots[i], word, lots[i])


def asked_sum(shape, m, scheme, plan, question):
    """The sum that a question asks for, for a plan."""
    lots, _ = scheme
    found = 0
    for i, word, c in question:
        found = found + c * met_entry(shape, lots[i], plan[i], world_asked(shape, scheme, i, word))
    return reduced(m, found)


def weights_at(shape, scheme, question, lot, word):
    """For each list that sees all of the lot, the sum of all c at its words with the letters of the word.

    The word has no first letters.
    """
    lots, _ = scheme
    sums = [0] * len(lots)
    for i, own, c in question:
        if letters_at(lot, world_asked(shape, scheme, i, own)) == word:
            sums[i] = sums[i] + c
    return [found for found, big in zip(sums, lots) if does_hold(big, lot)]


def added_up(m, fractions):
    """The sum of fractions, for a modulus other than 0 by the modulus."""
    bottom = common_bottom(fractions)
    return as_fraction(reduced(m, sum(tops_over(bottom, fractions))), bottom)


def told_triples(m, shares):
    """The ascending triples of a world, the position of a sum, and the sum of all shares for these two, where not 0."""
    fractions = {}
    for world, e, share in shares:
        fractions.setdefault((world, e), []).append(share)
    triples = [(world, e, added_up(m, fractions[(world, e)])) for world, e in sorted(fractions)]
    return tuple([triple for triple in triples if triple[2] != (0, 1)])


def shares_of(shape, lot, word, multiples):
    """Triples of a world, the position of a sum, and a fraction, that give the multiples of the cubes at the word."""
    found = []
    for world, sign in signed_corners(shape, lot, word):
        for e, (top, bottom) in enumerate(multiples):
            found.append((world, e, (sign * top, bottom)))
    return found


def judge_terms(shape, m, scheme, question):
    """Any certificate of [5.2] about a valid question."""
    shares = []
    for lot, form, full in small_forms(shape, scheme):
        for word in full:
            kind, found = judge_weights(m, form, weights_at(shape, scheme, question, lot, word))
            if kind == "open":
                loose = [(lot, word, number_for_each(scheme, lot, found))]
                return ("open", plan_from(shape, m, scheme, loose))
            shares.extend(shares_of(shape, lot, word, found))
    return ("told", told_triples(m, shares))


def judge_question(shape, m, scheme, question):
    """Any certificate of [5.2]: multiples of the demand's sums, or a loose plan with another sum than 0."""
    need_scheme(shape, m, scheme)
    need_question(shape, scheme, question)
    return judge_terms(shape, m, scheme, question)


def is_told(shape, m, scheme, thing):
    """Whether any value is a triple of a world, the position of a sum, and a multiple."""
    _, sums = scheme
    if not is_triple(thing):
        return False
    world, e, multiple = thing
    return is_word(shape, all_places(shape), world) and is_below(e, len(sums)) and is_multiple(m, multiple)


def are_told(shape, m, scheme, thing):
    """Whether any value is an ascending tuple of such triples, no two with the same world and position."""
    if not isinstance(thing, tuple) or not all([is_told(shape, m, scheme, item) for item in thing]):
        return False
    return is_ascending(tuple([(world, e) for world, e, _ in thing]))


def given_tops(scheme, triples, bottom):
    """What the triples give to the entries of the lists, over the bottom: a dict from position and word to the top."""
    lots, sums = scheme
    found = {}
    for world, e, (top, own) in triples:
        for i, (lot, multiple) in enumerate(zip(lots, sums[e])):
            spot = (i, letters_at(lot, world))
            found[spot] = found.get(spot, 0) + top * (bottom // own) * multiple
    return found


def do_give(m, scheme, triples, question):
    """Whether the triples give to each entry just the c that the question has for it, and 0 to all others."""
    bottom = common_bottom([multiple for _, _, multiple in triples])
    rest = given_tops(scheme, triples, bottom)
    for i, word, c in question:
        rest[(i, word)] = rest.get((i, word), 0) - c * bottom
    return all([reduced(m, top) == 0 for top in rest.values()])


def do_triples_tell(shape, m, scheme, question, thing):
    """Whether any value is triples that give to each entry just the c that the question has for it."""
    return are_told(shape, m, scheme, thing) and do_give(m, scheme, thing, question)


def does_plan_differ(shape, m, scheme, question, thing):
    """Whether any value is a loose plan for which the sum that is asked for is not 0."""
    if not is_plan(shape, m, scheme, thing):
        return False
    if any([any(table) for table in demand_for(shape, m, scheme, thing)]):
        return False
    return asked_sum(shape, m, scheme, thing, question) != 0


def question_holds(shape, m, scheme, question, thing):
    """Whether any value is a certificate of [5.2] about the question."""
    need_scheme(shape, m, scheme)
    need_question(shape, scheme, question)
    if is_certificate(thing, "told", 2):
        return do_triples_tell(shape, m, scheme, question, thing[1])
    if is_certificate(thing, "open", 2):
        return does_plan_differ(shape, m, scheme, question, thing[1])
    return False


def answer(shape, m, scheme, demand, question):
    """The sum that the question asks for, for all plans that keep the demand; None if it is not sure."""
    need_demand(shape, m, scheme, demand)
    need_question(shape, scheme, question)
    plan = kept_plan(shape, m, scheme, demand)
    kind, _ = judge_terms(shape, m, scheme, question)
    if kind == "open":
        return None
    return asked_sum(shape, m, scheme, plan, question)
