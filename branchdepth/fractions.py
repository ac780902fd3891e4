"""Fractions: tuples (top, bottom) in lowest terms, the bottom from 1 on; 0 is (0, 1)."""

from branchdepth.sizes import is_whole


def common_divisor(one, other):
    """The greatest whole number that divides both, from 0 on."""
    one = abs(one)
    other = abs(other)
    while other != 0:
        one, other = other, one % other
    return one


def fraction(top, bottom):
    """The fraction that top over bottom is, bottom not 0."""
    divisor = common_divisor(top, bottom)
    if bottom < 0:
        # A divisor below 0 turns both signs, so the top alone bears one.
        divisor = -divisor
    return (top // divisor, bottom // divisor)


def is_fraction(thing):
    """Whether any thing is a fraction."""
    if not isinstance(thing, tuple) or len(thing) != 2:
        return False
    top, bottom = thing
    return is_whole(top) and is_whole(bottom) and bottom > 0 and common_divisor(top, bottom) == 1


def plus(u, v):
    """The sum of two fractions."""
    return fraction(u[0] * v[1] + v[0] * u[1], u[1] * v[1])


def minus(u, v):
    """The difference of two fractions."""
    return fraction(u[0] * v[1] - v[0] * u[1], u[1] * v[1])


def times(u, v):
    """The product of two fractions."""
    return fraction(u[0] * v[0], u[1] * v[1])


def over(u, v):
    """The quotient of two fractions, v not 0."""
    return fraction(u[0] * v[1], u[1] * v[0])


def is_less(u, v):
    """Whether u is less than v."""
    # Bottoms are above 0, so the crosswise products stand in the order of the fractions.
    return u[0] * v[1] < v[0] * u[1]


def least(some):
    """The least of a list of one fraction or more."""
    told = some[0]
    for u in some:
        if is_less(u, told):
            told = u
    return told
