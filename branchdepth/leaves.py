"""Leaves of a polynomial by a prime: the search for them, and what comes out of their forks."""

from branchdepth.bounds import discriminant_size
from branchdepth.branches import degree_of, numbers_of, product_of, storey_of, turns_of, with_step
from branchdepth.copies import copied
from branchdepth.forks import is_exchanged, steps_of
from branchdepth.fractions import fraction, is_less, least, plus, times
from branchdepth.keys import next_key
from branchdepth.parts import parts_of
from branchdepth.polys import divided
from branchdepth.rests import line_by, monic_rest_poly, sizes_of_sides
from branchdepth.storeys import Ground


def through_fork(f, kind, forks, fork, often):
    """The lists of forks, of all leaves, that begin with these forks and a fork whose part goes so often."""
    behind = forks + [fork]
    if often == 1:
        return [behind]
    made = with_step(kind, fork)
    if is_exchanged(kind, fork):
        return gone_into(f, kind, next_key(made), behind, fork[1])
    return gone_into(f, made, next_key(made), behind, None)


def gone_into(f, kind, key, forks, floor):
    """The lists of forks, of all leaves, behind a branch and a key; sizes have to be above the floor, if any."""
    told = []
    if divided(f, key)[1] == []:
        told.append(forks + [(key, None, None)])
    for size in sizes_of_sides(kind, key, line_by(kind, key, f)):
        if floor is None or is_less(floor, size):
            for part, often in parts_of(storey_of(kind), monic_rest_poly(kind, key, size, f)):
                told = told + through_fork(f, kind, forks, (key, size, part), often)
    return told


def forks_behind(f, p, first, often):
    """The lists of forks of all leaves with a first part that goes so often into the rests of f."""
    if often == 1:
        return [[]]
    kind = (p, first, [])
    return gone_into(f, kind, next_key(kind), [], None)


def leaves(f, p):
    """The leaves of any f by any p; refused are those out of bounds."""
    discriminant_size(f, p)
    told = []
    for first, often in parts_of(Ground(p), [number % p for number in f]):
        for forks in forks_behind(f, p, first, often):
            # Leaves have forks ahead in common in the search; what is told has nothing in common.
            told.append(copied((first, forks)))
    return told


def branch_of(p, leaf):
    """The branch of a leaf."""
    first, forks = leaf
    return copied((p, first, steps_of(forks)))


def leaf_numbers(p, leaf):
    """The two numbers of a leaf; multiplied they are its degree."""
    return numbers_of(branch_of(p, leaf))


def lesser_size(one, other):
    """The lesser of two sizes, not both None, which is greater than any."""
    return least([size for size in (one, other) if size is not None])


def in_common(p, one, other):
    """What two leaves of one list have in common: a fraction, the size of the resultant of their factors."""
    if one[0] != other[0]:
        return (0, 1)
    unlike = [pair for pair in zip(one[1], other[1]) if pair[0] != pair[1]]
    fork, other_fork = unlike[0]
    degrees = product_of(leaf_numbers(p, one)) * product_of(leaf_numbers(p, other))
    return times(fraction(degrees, len(fork[0]) - 1), lesser_size(fork[1], other_fork[1]))


def size_at_power(kind, power):
    """What a power below a branch's degree, written by the degrees of its keys, brings of the steps' sizes."""
    p, first, steps = kind
    left = power // (len(first) - 1)
    told = (0, 1)
    for turn, (key, size, part) in zip(turns_of(steps), steps):
        left, many = divmod(left, turn * (len(part) - 1))
        told = plus(told, times((many, 1), size))
    return told


def leaf_index(p, leaf):
    """The index of a leaf."""
    kind = branch_of(p, leaf)
    told = 0
    for power in range(degree_of(kind)):
        top, bottom = size_at_power(kind, power)
        told += top // bottom
    return told


def index_of(p, some):
    """The index of a list of leaves."""
    told = (sum([leaf_index(p, leaf) for leaf in some]), 1)
    for at, leaf in enumerate(some):
        for other in some[:at]:
            told = plus(told, in_common(p, leaf, other))
    # It is a size of whole numbers, so the bottom is 1.
    return told[0]
