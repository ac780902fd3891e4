"""Rests by a branch: elements of its tower, which tell what a polynomial is beside its size."""

from branchdepth.branches import ahead_of, monomial, size_by, storey_of, turn_of
from branchdepth.fractions import is_less, least, minus, plus, times
from branchdepth.lines import sides
from branchdepth.parts import monic_of
from branchdepth.polys import digits, least_size
from branchdepth.sizes import number_power


def letter_to(storey, n):
    """The letter of a storey's part, other than nought, to the power of any whole number."""
    # To the power of one less than all elements it is one, so powers below 0 are powers from 0 on, too.
    return storey.power(storey.letter(), n % (number_power(storey.p, storey.degree()) - 1))


def carried(kind, numbers):
    """The unit, and the monomial, that a list of whole numbers, one more than steps, comes to by a branch."""
    p, first, steps = kind
    storey = storey_of(kind)
    if steps == []:
        return (storey.one(), list(numbers))
    key, size, part = steps[-1]
    ahead = ahead_of(kind)
    turn = turn_of(ahead, size)
    quotient, many = divmod(numbers[-1], turn)
    more = monomial(ahead, times((turn, 1), size))
    unit, told = carried(ahead, [number + quotient * extra for number, extra in zip(numbers[:-1], more)])
    return (storey.times(storey.lifted(unit), letter_to(storey, quotient)), told + [many])


def unit_beside(kind, u, step, t):
    """The unit to which the monomial of a size u and t times that of a size step, added, are carried by a branch."""
    numbers = [one + t * other for one, other in zip(monomial(kind, u), monomial(kind, step))]
    return carried(kind, numbers)[0]


def least_places(kind, key, u, f):
    """The tuples (place, digit, size of the digit) of f by key that have, with place times u, the least size."""
    found = []
    for place, digit in enumerate(digits(f, key)):
        if digit != []:
            size = size_by(kind, digit)
            found.append((plus(size, times((place, 1), u)), (place, digit, size)))
    lowest = least([total for total, row in found])
    return [row for total, row in found if total == lowest]


def rest_without_steps(p, first, f):
    """The rest of a polynomial, other than nothing, by the branch of a first part alone."""
    power = number_power(p, least_size(f, p))
    return [part // power % p for part in f] + [0] * (len(first) - 1 - len(f))


def rest_by(kind, f):
    """The rest by a branch of a polynomial, other than nothing, of lesser degree than the branch's."""
    p, first, steps = kind
    if steps == []:
        return rest_without_steps(p, first, f)
    key, size, part = steps[-1]
    ahead = ahead_of(kind)
    storey = storey_of(kind)
    told = storey.zero()
    for place, digit, own in least_places(ahead, key, size, f):
        unit = carried(kind, monomial(ahead, own) + [place])[0]
        told = storey.plus(told, storey.times(storey.lifted(rest_by(ahead, digit)), unit))
    return told


def rest_poly(kind, key, u, f):
    """The rest polynomial of f, other than nothing, by a branch, a key that belongs to it and a size u."""
    storey = storey_of(kind)
    turn = turn_of(kind, u)
    rows = least_places(kind, key, u, f)
    begin = rows[0][0]
    told = [storey.zero() for place in range((rows[-1][0] - begin) // turn + 1)]
    for place, digit, size in rows:
        # Sizes of digits are sizes by the branch, so places of the least one lie whole turns apart.
        t = (place - begin) // turn
        unit = unit_beside(kind, size, times((turn, 1), u), t)
        told[t] = storey.times(rest_by(kind, digit), unit)
    return told


def monic_rest_poly(kind, key, u, f):
    """The rest polynomial of f, divided by its last element."""
    return monic_of(storey_of(kind), rest_poly(kind, key, u, f))


def line_by(kind, key, f):
    """The sides of the line of f, other than nothing, by a branch and a key that belongs to it."""
    own = size_by(kind, key)
    found = []
    for place, digit in enumerate(digits(f, key)):
        size = size_by(kind, digit)
        found.append(None if size is None else plus(size, times((place, 1), own)))
    return sides(found)


def sizes_of_sides(kind, key, line):
    """The sizes that the sides of a line by a branch and a key stand for, those with slopes below 0."""
    own = size_by(kind, key)
    return [minus(own, slope) for s, t, slope in line if is_less(slope, (0, 1))]
