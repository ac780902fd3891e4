"""Factors and roots of a polynomial by a prime, to a number of figures."""

from branchdepth.bounds import discriminant_size, refuse_for_factors
from branchdepth.branches import turns_of, with_step
from branchdepth.fractions import is_less, plus, times
from branchdepth.keys import next_key
from branchdepth.leaves import branch_of, leaves
from branchdepth.polys import divided, multiplied
from branchdepth.rests import line_by, monic_rest_poly, sizes_of_sides
from branchdepth.sizes import number_power


def figures_of(f, p, n):
    """The figures of f by p to the number n."""
    power = number_power(p, n)
    return [number % power for number in f]


def most_of_keys(kind):
    """The greatest size that the keys of a branch bring to a term of lesser degree than the branch's."""
    p, first, steps = kind
    told = (0, 1)
    for turn, (key, size, part) in zip(turns_of(steps), steps):
        told = plus(told, times((turn * (len(part) - 1) - 1, 1), size))
    return told


def near_key(f, kind, wanted):
    """A key near to the one factor of f that a branch is left with: their difference has at least the size wanted."""
    key = next_key(kind)
    while True:
        low = divided(f, multiplied(key, key))[1]
        if divided(low, key)[1] == []:
            return key
        # There is one such factor alone, so the first side goes over one place, and the digits behind don't count.
        size = sizes_of_sides(kind, key, line_by(kind, key, low))[0]
        if not is_less(size, wanted):
            return key
        key = next_key(with_step(kind, (key, size, monic_rest_poly(kind, key, size, low))))


def factor_of(f, p, leaf, n):
    """A polynomial that has with the factor of a leaf of f the figures by p to the number n in common."""
    first, forks = leaf
    if forks != [] and forks[-1][1] is None:
        return forks[-1][0]
    kind = branch_of(p, leaf)
    # A difference of size n, and what the keys may bring to it beside, has numbers of size n alone.
    return near_key(f, kind, plus((n, 1), most_of_keys(kind)))


def factors(f, p, n):
    """The factors of any f by any p to any number n of figures, in the order of the leaves."""
    refuse_for_factors(f, p, n)
    return [figures_of(factor_of(f, p, leaf, n), p, n) for leaf in leaves(f, p)]


def roots(f, p, n):
    """The roots of any f by any p to any number n of figures, in the order of the leaves."""
    told = [factor for factor in factors(f, p, n) if len(factor) == 2]
    return [-factor[0] % number_power(p, n) for factor in told]


def enough(f, p):
    """How many figures of any f by any p are enough."""
    return discriminant_size(f, p) + 1
