"""A looker: it lets a list of leaves by or not, and knows of no search."""

from branchdepth.bounds import discriminant_size
from branchdepth.branches import ahead_of, degree_of, storey_of
from branchdepth.forks import is_exchanged, steps_of
from branchdepth.fractions import is_fraction, is_less
from branchdepth.keys import belongs
from branchdepth.parts import is_alone, letter_of, over_poly
from branchdepth.polys import divided, is_monic
from branchdepth.rests import line_by, monic_rest_poly, sizes_of_sides
from branchdepth.storeys import Ground
from branchdepth.towers import is_monic_over


def times_in(storey, f, part):
    """How often a monic polynomial of degree 1 and more goes into f, other than nothing."""
    often = 0
    quotient, rest = over_poly(storey, f, part)
    while rest == []:
        often += 1
        quotient, rest = over_poly(storey, quotient, part)
    return often


def goes_as_asked(storey, f, thing, once):
    """Whether any thing is alone and goes into f once, or oftener where it isn't asked to go once."""
    # A part of greater degree than f is not looked through: its powers might not come home.
    if not is_monic_over(storey, thing) or len(thing) > len(f) or not is_alone(storey, thing):
        return False
    often = times_in(storey, f, thing)
    return often == 1 if once else often > 1


def is_part_at(f, kind, key, size, thing, is_last):
    """Whether any thing is a part as a fork with this key and size behind a branch may have it."""
    storey = storey_of(kind)
    if thing == letter_of(storey):
        return False
    return goes_as_asked(storey, monic_rest_poly(kind, key, size, f), thing, is_last)


def is_end(f, fork, is_last):
    """Whether a fork of size None is such that a leaf may end with it."""
    key, size, part = fork
    return part is None and is_last and divided(f, key)[1] == []


def is_fork_behind(f, kind, ahead, fork, is_last):
    """Whether any thing is a fork that may follow the forks ahead, whose branch is handed in."""
    if not isinstance(fork, tuple) or len(fork) != 3:
        return False
    key, size, part = fork
    if not is_monic(key) or not belongs(kind, key):
        return False
    if size is None:
        return is_end(f, fork, is_last)
    if not is_fraction(size):
        return False
    place = kind
    if ahead != [] and is_exchanged(ahead_of(kind), ahead[-1]):
        place = ahead_of(kind)
        if not is_less(ahead[-1][1], size):
            return False
    if size not in sizes_of_sides(place, key, line_by(place, key, f)):
        return False
    return is_part_at(f, place, key, size, part, is_last)


def are_forks(f, p, first, forks):
    """Whether each fork of a list may follow those ahead of it."""
    for at, fork in enumerate(forks):
        ahead = forks[:at]
        kind = (p, first, steps_of(ahead))
        if not is_fork_behind(f, kind, ahead, fork, at == len(forks) - 1):
            return False
    return True


def is_leaf(f, p, thing):
    """Whether any thing is a leaf that f may have by p."""
    if not isinstance(thing, tuple) or len(thing) != 2:
        return False
    first, forks = thing
    if not isinstance(forks, list):
        return False
    if not goes_as_asked(Ground(p), [number % p for number in f], first, forks == []):
        return False
    return are_forks(f, p, first, forks)


def stand_apart(one, other):
    """Whether two leaves have unlike first parts, or part at forks with the same key."""
    if one[0] != other[0]:
        return True
    unlike = [pair for pair in zip(one[1], other[1]) if pair[0] != pair[1]]
    return unlike != [] and unlike[0][0][0] == unlike[0][1][0]


def all_stand_apart(some):
    """Whether each two leaves of a list stand apart."""
    for at, leaf in enumerate(some):
        for other in some[:at]:
            if not stand_apart(leaf, other):
                return False
    return True


def lets_by(f, p, thing):
    """Whether any thing is a list of leaves of any f by any p; refused are f and p out of bounds."""
    discriminant_size(f, p)
    # Degrees are from 1 on: of more leaves than the degree of f none needs to be looked at.
    if not isinstance(thing, list) or len(thing) > len(f) - 1:
        return False
    for leaf in thing:
        if not is_leaf(f, p, leaf):
            return False
    degrees = [degree_of((p, first, steps_of(forks))) for first, forks in thing]
    # A list of none doesn't come to the degree of f.
    return sum(degrees) == len(f) - 1 and all_stand_apart(thing)
