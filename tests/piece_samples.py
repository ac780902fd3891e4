"""Polynomials with whole coefficients that have no parts by a prime, each with its two numbers as they are known."""

import itertools

from branch_samples import (
    FULL, WITH_A_FIRST_OF_DEGREE_TWO, WITH_FOUR_STEPS, WITH_GREAT_PARTS, WITH_STEPS_OF_DEGREE_ONE, WITH_THREE_STEPS,
    degree_by_hand, power, turns_by_hand)
from branchdepth.plains import discriminant, resultant
from branchdepth.polys import added, multiplied, scaled, shifted
from branchdepth.sizes import size_of_number

# Alone by their rests.
ALONE = {
    2: ([1, 1, 1], [1, 1, 0, 1], [1, 1, 0, 0, 1]),
    3: ([1, 0, 1], [2, 1, 1], [1, 2, 0, 1]),
    5: ([2, 0, 1], [1, 1, 1], [1, 1, 0, 1]),
    7: ([1, 0, 1], [3, 1, 1], [2, 0, 0, 1]),
    13: ([2, 0, 1], [2, 1, 1]),
    31: ([1, 0, 1], [3, 0, 0, 1]),
    47: ([1, 0, 1], [9, 3, 1]),
}


def two_terms(degree, k):
    return [k] + [0] * (degree - 1) + [1]


def plain_pieces(p):
    """Pieces of the sorts that are in every book: straight, alone by rests, with p in all but the lead."""
    told = [([-k, 1], (1, 1)) for k in (0, 1, p, -1, p + 1, 7 * p ** 3)]
    told += [(f, (1, len(f) - 1)) for f in ALONE[p]]
    told += [(added(f, [p, -p]), (1, len(f) - 1)) for f in ALONE[p]]
    for degree, k in itertools.product((2, 3, 4, 5), (1, 2, 3)):
        if not (degree == 4 and k == 2) and degree != k:
            told.append((two_terms(degree, p ** k * (p - 1)), (degree, 1)))
            told.append((added(two_terms(degree, p ** k * (p + 1)), [0, p ** (k + 1)]), (degree, 1)))
    for f in ALONE[p]:
        if len(f) < 4:
            told.append((added(power(f, 2), [p]), (2, len(f) - 1)))
            told.append((added(power(f, 3), [0, p ** 2]), (3, len(f) - 1)))
            # At the letter times p: alone, one figure on.
            told.append(([number * p ** (len(f) - 1 - at) for at, number in enumerate(f)], (1, len(f) - 1)))
    return told


def numbers_by_hand(kind, turns):
    first = 1
    for turn in turns:
        first *= turn
    return (first, degree_by_hand(kind) // first)


def pieces_of(p):
    """All pieces by a prime, the keys of known branches among them."""
    told = plain_pieces(p)
    rows = (WITH_A_FIRST_OF_DEGREE_TWO + WITH_FOUR_STEPS + WITH_GREAT_PARTS + WITH_STEPS_OF_DEGREE_ONE
            + WITH_THREE_STEPS)
    told += [(key, numbers_by_hand(kind, turns)) for kind, key, turns in rows if kind[0] == p]
    for prime, first, steps, last in FULL:
        keys = [key for key, size, part in steps] + [last]
        for many, key in enumerate(keys):
            if prime == p:
                told.append((key, numbers_by_hand((p, first, steps[:many]), turns_by_hand(steps[:many]))))
    return told


PIECES = {p: pieces_of(p) for p in ALONE}


def product_of(polynomials):
    told = [1]
    for f in polynomials:
        told = multiplied(told, f)
    return told


def size_of_discriminant(f, p):
    """None where f has a square part."""
    return size_of_number(discriminant(f), p)


def drawn_pieces(source, p, most_degree=12, most_size=40):
    """Some pieces, shifted by something, whose product is within bounds."""
    while True:
        told = []
        for turn in range(source.randrange(1, 5)):
            f, numbers = source.choice(PIECES[p])
            f = shifted(f, source.choice((0, 0, 1, p, -p, p * p, 3)))
            if sum(len(g) - 1 for g, more in told) + len(f) - 1 <= most_degree:
                told.append((f, numbers))
        if told:
            size = size_of_discriminant(product_of([f for f, numbers in told]), p)
            if size is not None and size <= most_size:
                return told


def common_sizes(p, pieces):
    """For each two pieces their numbers and the size of their resultant, in some order."""
    told = []
    for (f, one), (g, other) in itertools.combinations(pieces, 2):
        told.append((sorted((one, other)), size_of_number(resultant(f, g), p)))
    return sorted(told)


def moved(source, f, p, least):
    """Another polynomial with the same figures by p to the number least."""
    more = [source.randrange(-5, 6) * p ** least for place in range(len(f) - 1)]
    while more and more[-1] == 0:
        more.pop()
    return added(f, scaled(1, more))
