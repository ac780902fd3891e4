"""Keys of branches: which belong to one, the next one; and which things are branches."""

from branchdepth.branches import ahead_of, degree_of, monomial, size_by, storey_of, turn_of
from branchdepth.fractions import is_fraction, is_less, minus, times
from branchdepth.parts import letter_of
from branchdepth.polys import is_monic, put_together, scaled
from branchdepth.rests import line_by, monic_rest_poly, sizes_of_sides, unit_beside
from branchdepth.sizes import is_prime, number_power
from branchdepth.storeys import Ground
from branchdepth.towers import MOST_DEGREE, is_next_part

MOST_STEPS = 4


def belongs(kind, key):
    """Whether a monic polynomial belongs to a branch."""
    p, first, steps = kind
    if len(key) - 1 != degree_of(kind):
        return False
    if steps == []:
        return [number % p for number in key] == first
    last_key, size, part = steps[-1]
    ahead = ahead_of(kind)
    line = line_by(ahead, last_key, key)
    if len(line) != 1 or line[0][0] != 0 or sizes_of_sides(ahead, last_key, line) != [size]:
        return False
    return monic_rest_poly(ahead, last_key, size, key) == part


def with_rest(kind, u, rest):
    """The polynomial that has this rest by a branch, other than nought, and is a sum of terms all of size u."""
    p, first, steps = kind
    if steps == []:
        return scaled(number_power(p, u[0]), rest)
    key, size, part = steps[-1]
    ahead = ahead_of(kind)
    turn = turn_of(ahead, size)
    begin = monomial(kind, u)[-1]
    floor = storey_of(ahead)
    places = [[] for place in range(begin + turn * len(rest))]
    for t, term in enumerate(rest):
        if not floor.is_nought(term):
            place = begin + turn * t
            left = minus(u, times((place, 1), size))
            unit = unit_beside(ahead, left, times((turn, 1), size), t)
            places[place] = with_rest(ahead, left, floor.times(term, floor.back(unit)))
    return put_together(places, key)


def next_key(kind):
    """The next key of a branch: of those that belong to it the one made of terms of one size for each place."""
    p, first, steps = kind
    if steps == []:
        return list(first)
    key, size, part = steps[-1]
    ahead = ahead_of(kind)
    turn = turn_of(ahead, size)
    step = times((turn, 1), size)
    degree = len(part) - 1
    storey = storey_of(ahead)
    lead = unit_beside(ahead, (0, 1), step, degree)
    places = [[] for place in range(turn * degree)] + [[1]]
    for t, term in enumerate(part[:-1]):
        if not storey.is_nought(term):
            left = times((degree - t, 1), step)
            unit = unit_beside(ahead, left, step, t)
            rest = storey.times(term, storey.times(lead, storey.back(unit)))
            places[turn * t] = with_rest(ahead, left, rest)
    return put_together(places, key)


def is_part_behind(kind, size, thing):
    """Whether any thing is a part that a step of this size behind a branch may have."""
    # The bound comes first: a greater part would not be looked through in time.
    if not isinstance(thing, list) or degree_of(kind) * turn_of(kind, size) * (len(thing) - 1) > MOST_DEGREE:
        return False
    storey = storey_of(kind)
    return is_next_part(storey, thing) and thing != letter_of(storey)


def is_step_behind(kind, thing):
    """Whether any thing is a step that a branch may have behind its own."""
    if not isinstance(thing, tuple) or len(thing) != 3:
        return False
    key, size, part = thing
    if not is_monic(key) or not is_fraction(size):
        return False
    if not belongs(kind, key) or not is_less(size_by(kind, key), size):
        return False
    return is_part_behind(kind, size, part)


def is_branch(thing):
    """Whether any thing is a branch."""
    if not isinstance(thing, tuple) or len(thing) != 3:
        return False
    p, first, steps = thing
    if not is_prime(p) or not is_next_part(Ground(p), first):
        return False
    if not isinstance(steps, list) or len(steps) > MOST_STEPS:
        return False
    for at, step in enumerate(steps):
        if not is_step_behind((p, first, steps[:at]), step):
            return False
    return True
