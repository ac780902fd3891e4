"""Polynomials: lists of whole numbers, that of power 0 first, the last one not 0; [] is nothing."""

from branchdepth.sizes import is_whole, size_of_number


def is_polynomial(thing):
    """Whether any thing is a polynomial."""
    if not isinstance(thing, list):
        return False
    for part in thing:
        if not is_whole(part):
            return False
    return thing == [] or thing[-1] != 0


def is_monic(thing):
    """Whether any thing is a monic polynomial."""
    return is_polynomial(thing) and thing != [] and thing[-1] == 1


def without_noughts_behind(numbers):
    """The polynomial of these coefficients: noughts at the end are left out."""
    many = len(numbers)
    while many > 0 and numbers[many - 1] == 0:
        many -= 1
    return numbers[:many]


def coefficient(f, place):
    """The coefficient of a power of f, 0 above the degree."""
    return f[place] if place < len(f) else 0


def added(f, g):
    """The sum of two polynomials."""
    many = max(len(f), len(g))
    return without_noughts_behind([coefficient(f, at) + coefficient(g, at) for at in range(many)])


def scaled(k, f):
    """A polynomial times a whole number."""
    return without_noughts_behind([k * part for part in f])


def taken_off(f, g):
    """The difference of two polynomials."""
    return added(f, scaled(-1, g))


def multiplied(f, g):
    """The product of two polynomials."""
    if f == [] or g == []:
        return []
    product = [0] * (len(f) + len(g) - 1)
    for at, one in enumerate(f):
        for behind, other in enumerate(g):
            product[at + behind] += one * other
    # The leading terms' product is not 0, so there is nothing to leave out.
    return product


def shifted(f, c):
    """What f is at the letter and c."""
    told = []
    for part in reversed(f):
        told = added(multiplied(told, [c, 1]), without_noughts_behind([part]))
    return told


def derived(f):
    """The derivative of a polynomial."""
    return [at * part for at, part in enumerate(f)][1:]


def value(f, k):
    """What f is at a whole number."""
    told = 0
    for part in reversed(f):
        told = told * k + part
    return told


def divided(f, g):
    """The tuple (quotient, rest) of f by g, monic; the rest is of lesser degree than g."""
    rest = list(f)
    quotient = []
    degree = len(g) - 1
    for place in reversed(range(len(f) - degree)):
        lead = rest[place + degree]
        quotient.append(lead)
        for at, part in enumerate(g):
            rest[place + at] -= lead * part
    quotient.reverse()
    # The quotient begins with the lead of f, so noughts may stand at the end of the rest alone.
    return (quotient, without_noughts_behind(rest))


def digits(f, key):
    """The digits of f by a monic key of degree 1 and more, that of the key's power 0 first."""
    told = []
    left = f
    while left != []:
        left, rest = divided(left, key)
        told.append(rest)
    return told


def put_together(digits, key):
    """The polynomial that has these digits by key."""
    told = []
    for digit in reversed(digits):
        told = added(multiplied(told, key), digit)
    return told


def least_size(f, p):
    """The least of the coefficients' sizes by p, None of nothing."""
    sizes = [size_of_number(part, p) for part in f if part != 0]
    return min(sizes, default=None)
