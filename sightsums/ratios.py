"""Fractions, as pairs of a top and a bottom [0.2], and the kinds of them that certificates are made of."""

from math import gcd, lcm

from sightsums.shapes import is_number, is_plain_integer


def is_fraction(thing):
    """Whether any value is a fraction."""
    if not isinstance(thing, tuple) or len(thing) != 2:
        return False
    top, bottom = thing
    if not is_plain_integer(top) or not is_plain_integer(bottom):
        return False
    return bottom >= 1 and gcd(top, bottom) == 1


def is_share(m, thing):
    """Whether any value is a fraction from 0 to below 1, with a bottom that divides a modulus other than 0 [3.2]."""
    if not is_fraction(thing):
        return False
    top, bottom = thing
    return 0 <= top < bottom and m % bottom == 0


def is_multiple(m, thing):
    """Whether any value is a fraction, for a modulus other than 0 a number over 1 [3.4, 5.2]."""
    if not is_fraction(thing):
        return False
    top, bottom = thing
    return m == 0 or (bottom == 1 and is_number(m, top))


def are_shares(m, many, thing):
    """Whether any value is a row of so many fractions [3.2]."""
    return isinstance(thing, tuple) and len(thing) == many and all([is_share(m, item) for item in thing])


def are_multiples(m, many, thing):
    """Whether any value is a tuple of so many multiples."""
    return isinstance(thing, tuple) and len(thing) == many and all([is_multiple(m, item) for item in thing])


def as_fraction(top, bottom):
    """The fraction that a top over a bottom from 1 on comes to."""
    shared = gcd(top, bottom)
    return (top // shared, bottom // shared)


def common_bottom(fractions):
    """The least bottom over which all the fractions can be written."""
    found = 1
    for _, bottom in fractions:
        found = lcm(found, bottom)
    return found


def tops_over(bottom, fractions):
    """The tops of the fractions over a bottom that they have in common."""
    return [top * (bottom // own) for top, own in fractions]
