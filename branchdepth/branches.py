"""Branches: tuples (p, first, steps), steps a list of tuples (key, size, part); and the sizes by them."""

from branchdepth.errors import NoSize
from branchdepth.fractions import least, minus, plus, times
from branchdepth.polys import digits, least_size
from branchdepth.storeys import Ground, Storey
from branchdepth.towers import Tower


def product_of(numbers):
    """The product of a list of whole numbers, 1 of none."""
    told = 1
    for number in numbers:
        told = told * number
    return told


def turns_of(steps):
    """The e of each step: how often its size is taken to be a sum of the sizes ahead."""
    told = []
    for key, size, part in steps:
        # The sums of whole multiples of 1 and of the sizes ahead are the multiples of 1 over the product of their e.
        told.append(times(size, (product_of(told), 1))[1])
    return told


def ahead_of(kind):
    """A branch without its last step."""
    p, first, steps = kind
    return (p, first, steps[:-1])


def with_step(kind, step):
    """A branch with one more step behind those that it has."""
    p, first, steps = kind
    return (p, first, steps + [step])


def numbers_of(kind):
    """The product of all e, and the product of the degrees of first and all parts."""
    p, first, steps = kind
    degrees = [len(part) - 1 for key, size, part in steps]
    return (product_of(turns_of(steps)), (len(first) - 1) * product_of(degrees))


def degree_of(kind):
    """The degree of a branch."""
    return product_of(numbers_of(kind))


def turn_of(kind, u):
    """The e of a size u behind a branch: how often it is taken to be a size that there is by the branch."""
    return times(u, (numbers_of(kind)[0], 1))[1]


def tower_of(kind):
    """The tower of a branch."""
    p, first, steps = kind
    return Tower(p, [first] + [part for key, size, part in steps])


def storey_of(kind):
    """The uppermost storey of a branch's tower, whose parts are known to make one: they are not looked through."""
    p, first, steps = kind
    top = Storey(Ground(p), first)
    for key, size, part in steps:
        top = Storey(top, part)
    return top


def size_by(kind, f):
    """The size of a polynomial by a branch, None of nothing."""
    p, first, steps = kind
    if f == []:
        return None
    if steps == []:
        return (least_size(f, p), 1)
    key, size, part = steps[-1]
    ahead = ahead_of(kind)
    return least([
        plus(size_by(ahead, digit), times((place, 1), size))
        for place, digit in enumerate(digits(f, key)) if digit != []
    ])


def monomial(kind, u):
    """How often p and each key are taken to have the size u by a branch; NoSize where there is no such size."""
    p, first, steps = kind
    if steps == []:
        if u[1] != 1:
            raise NoSize("no polynomial has this size by the branch")
        return [u[0]]
    key, size, part = steps[-1]
    turns = turns_of(steps)
    bottom = product_of(turns[:-1])
    for many in range(turns[-1]):
        left = minus(u, times((many, 1), size))
        if bottom % left[1] == 0:
            return monomial(ahead_of(kind), left) + [many]
    raise NoSize("no polynomial has this size by the branch")
