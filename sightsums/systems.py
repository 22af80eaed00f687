"""Systems, rows of fractions, loose rows and sure sums [3.1 to 3.4].

The form of rows is their diagonal form, from sightsums.forms.
"""

from math import gcd, lcm

from sightsums.cubes import is_certificate
from sightsums.errors import BadSystem
from sightsums.forms import diagonal_form, lowered, turned, weighted
from sightsums.ratios import are_multiples, are_shares, as_fraction, common_bottom, tops_over
from sightsums.shapes import is_number, is_plain_integer, need_modulus, reduced


def is_row_of_integers(many, thing):
    """Whether any value is a tuple of so many integers."""
    return isinstance(thing, tuple) and len(thing) == many and all([is_plain_integer(item) for item in thing])


def is_row_of_numbers(m, many, thing):
    """Whether any value is a tuple of so many numbers."""
    return isinstance(thing, tuple) and len(thing) == many and all([is_number(m, item) for item in thing])


def are_rows(thing):
    """Whether any value is rows."""
    if not isinstance(thing, tuple) or len(thing) == 0 or not isinstance(thing[0], tuple):
        return False
    return all([is_row_of_integers(len(thing[0]), row) for row in thing])


def need_rows(m, rows):
    """Raise the error of the first of modulus and rows that is none."""
    need_modulus(m)
    if not are_rows(rows):
        raise BadSystem(rows)


def need_system(m, rows, sides):
    """Raise the error of the first of modulus, rows and sides that is none."""
    need_rows(m, rows)
    if not is_row_of_numbers(m, len(rows), sides):
        raise BadSystem(sides)


def need_weights(m, rows, weights):
    """Raise the error of the first of modulus, rows and weights that is none."""
    need_rows(m, rows)
    if not is_row_of_integers(len(rows[0]), weights):
        raise BadSystem(weights)


def divisor_by(m, number):
    """A greatest common divisor k of a number and the modulus, and by what the number is multiplied for k, by m.

    If m is 0, k is the number itself, perhaps 0 or below 0.
    """
    k, rest = number, m
    times, rest_times = 1, 0
    while rest != 0:
        whole = k // rest
        k, rest = rest, k - whole * rest
        times, rest_times = rest_times, times - whole * rest_times
    return k, times


def least_no_divisor(number):
    """The least integer from 2 on that does not divide a number other than 0."""
    found = 2
    while number % found == 0:
        found = found + 1
    return found


def bar_in(m, form, sides):
    """A row of fractions that bars the system with the form and the sides, None if there is none."""
    diagonal, left, _ = form
    for line, entry in zip(left, diagonal):
        side = weighted(line, sides)
        bottom = gcd(entry, m)
        if bottom == 0 and side != 0:
            # This sum of rows is 0 everywhere, so that any part of it is whole.
            bottom = least_no_divisor(side)
        if bottom != 0 and side % bottom != 0:
            return tuple([as_fraction(item % bottom, bottom) for item in line])
    return None


def solution_in(m, form, sides):
    """A solution of the system with the form and the sides, where nothing bars it."""
    diagonal, left, right = form
    found = [0] * len(right)
    for line, entry, column in zip(left, diagonal, right):
        k, times = divisor_by(m, entry)
        if k != 0:
            found = lowered(found, -times * (weighted(line, sides) // k), column)
    return tuple([reduced(m, item) for item in found])


def judge_form(m, form, sides):
    """Any certificate of [3.2] about the rows with the form, and the sides."""
    bar = bar_in(m, form, sides)
    if bar is not None:
        return ("row", bar)
    return ("solution", solution_in(m, form, sides))


def judge_system(m, rows, sides):
    """Any certificate of [3.2]: a solution, or a row of fractions that bars the system."""
    need_system(m, rows, sides)
    return judge_form(m, diagonal_form(rows), sides)


def is_solution(m, rows, sides, thing):
    """Whether any value is a solution of the system."""
    if not is_row_of_numbers(m, len(rows[0]), thing):
        return False
    return all([reduced(m, weighted(row, thing)) == side for row, side in zip(rows, sides)])


def does_row_bar(m, rows, sides, thing):
    """Whether any value is a row of fractions that bars the system."""
    if not are_shares(m, len(rows), thing):
        return False
    bottom = common_bottom(thing)
    tops = tops_over(bottom, thing)
    if any([weighted(tops, column) % bottom != 0 for column in turned(rows)]):
        return False
    return weighted(tops, sides) % bottom != 0


def system_holds(m, rows, sides, thing):
    """Whether any value is a certificate of [3.2] about the rows and sides."""
    need_system(m, rows, sides)
    if is_certificate(thing, "solution", 2):
        return is_solution(m, rows, sides, thing[1])
    if is_certificate(thing, "row", 2):
        return does_row_bar(m, rows, sides, thing[1])
    return False


def loose_pairs(m, form):
    """The pairs of a base for a modulus other than 0; for the modulus 0 likewise, each with a k of 0."""
    diagonal, _, right = form
    found = []
    for column, entry in zip(right, diagonal):
        k = gcd(entry, m)
        if k == 0:
            found.append((tuple(column), 0))
        elif m != 0 and k != 1:
            found.append((tuple([reduced(m, m // k * item) for item in column]), k))
    return found


def many_in(m, form):
    """The number of loose rows, for the modulus 0 the number of rows of a base."""
    pairs = loose_pairs(m, form)
    if m == 0:
        return len(pairs)
    many = 1
    for _, k in pairs:
        many = many * k
    return many


def loose_base(m, rows):
    """Any base of the loose rows [3.3]."""
    need_rows(m, rows)
    pairs = loose_pairs(m, diagonal_form(rows))
    if m == 0:
        return tuple([row for row, _ in pairs])
    return tuple(pairs)


def many_loose(m, rows):
    """The number of loose rows; for the modulus 0 the number of rows of a base."""
    need_rows(m, rows)
    return many_in(m, diagonal_form(rows))


def bottom_for(m, diagonal):
    """A bottom over which all multiples can be written that make up sure sums."""
    found = 1
    for entry in diagonal:
        if m == 0 and entry != 0:
            found = lcm(found, entry)
    return found


def top_for(m, entry, bottom, weight):
    """The top, over the bottom, of what the entry of a diagonal is multiplied by to give the weight."""
    if m != 0:
        k, times = divisor_by(m, entry)
        return times * (weight // k)
    if entry == 0:
        return 0
    return bottom // entry * weight


def multiples_in(m, form, weights):
    """The multiples of the rows with the form that add up to the weights, where the sum is sure."""
    diagonal, left, right = form
    bottom = bottom_for(m, diagonal)
    tops = [0] * len(left)
    for line, entry, column in zip(left, diagonal, right):
        tops = lowered(tops, -top_for(m, entry, bottom, weighted(column, weights)), line)
    return tuple([as_fraction(reduced(m, top), bottom) for top in tops])


def open_row(m, form, weights):
    """A loose row of the rows with the form for which the weighted sum is not 0, None if there is none."""
    for row, _ in loose_pairs(m, form):
        if reduced(m, weighted(row, weights)) != 0:
            return row
    return None


def judge_weights(m, form, weights):
    """Any certificate of [3.4] about the rows with the form, and the weights."""
    row = open_row(m, form, weights)
    if row is not None:
        return ("open", row)
    return ("told", multiples_in(m, form, weights))


def judge_sure(m, rows, weights):
    """Any certificate of [3.4]: multiples of the rows, or a loose row that shows the sum to be open."""
    need_weights(m, rows, weights)
    return judge_weights(m, diagonal_form(rows), weights)


def do_multiples_tell(m, rows, weights, thing):
    """Whether any value is a tuple of multiples, one for each row, that add up to the weights."""
    if not are_multiples(m, len(rows), thing):
        return False
    bottom = common_bottom(thing)
    tops = tops_over(bottom, thing)
    sums = [weighted(tops, column) for column in turned(rows)]
    return all([reduced(m, found - bottom * weight) == 0 for found, weight in zip(sums, weights)])


def does_row_differ(m, rows, weights, thing):
    """Whether any value is a loose row for which the weighted sum is not 0."""
    if not is_solution(m, rows, [0] * len(rows), thing):
        return False
    return reduced(m, weighted(thing, weights)) != 0


def sure_holds(m, rows, weights, thing):
    """Whether any value is a certificate of [3.4] about the rows and weights."""
    need_weights(m, rows, weights)
    if is_certificate(thing, "told", 2):
        return do_multiples_tell(m, rows, weights, thing[1])
    if is_certificate(thing, "open", 2):
        return does_row_differ(m, rows, weights, thing[1])
    return False
