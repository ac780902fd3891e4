"""Polynomials over a tower: lists of its elements, that of power 0 first, the last one not nought; [] is nothing."""

from branchdepth.copies import copied
from branchdepth.kernels import kernel
from branchdepth.sizes import number_power


def without_noughts(tower, terms):
    """The polynomial of these terms: noughts at the end are left out."""
    many = len(terms)
    while many > 0 and tower.is_nought(terms[many - 1]):
        many -= 1
    return terms[:many]


def minus_poly(tower, f, g):
    """The difference of two polynomials."""
    many = max(len(f), len(g))
    ahead = f + [tower.zero() for place in range(len(f), many)]
    behind = g + [tower.zero() for place in range(len(g), many)]
    return without_noughts(tower, [tower.minus(one, other) for one, other in zip(ahead, behind)])


def scaled_poly(tower, u, f):
    """A polynomial times an element other than nought."""
    return [tower.times(u, term) for term in f]


def times_poly(tower, f, g):
    """The product of two polynomials."""
    if f == [] or g == []:
        return []
    product = [tower.zero() for place in range(len(f) + len(g) - 1)]
    for at, one in enumerate(f):
        if not tower.is_nought(one):
            for place, other in enumerate(g, start=at):
                product[place] = tower.plus(product[place], tower.times(one, other))
    return product


def over_monic(tower, f, g):
    """The tuple (quotient, rest) of f by g, monic."""
    rest = copied(f)
    quotient = []
    degree = len(g) - 1
    while len(rest) > degree:
        lead = rest.pop()
        quotient.append(lead)
        if not tower.is_nought(lead):
            for at in range(degree):
                place = len(rest) - degree + at
                rest[place] = tower.minus(rest[place], tower.times(lead, g[at]))
    quotient.reverse()
    return (quotient, without_noughts(tower, rest))


def monic_of(tower, f):
    """A polynomial, other than nothing, divided by its last element."""
    if f[-1] == tower.one():
        return copied(f)
    return scaled_poly(tower, tower.back(f[-1]), f)


def over_poly(tower, f, g):
    """The tuple (quotient, rest) of f by g, other than nothing."""
    if g[-1] == tower.one():
        return over_monic(tower, f, g)
    back = tower.back(g[-1])
    quotient, rest = over_monic(tower, f, scaled_poly(tower, back, g))
    return (scaled_poly(tower, back, quotient), rest)


def common_poly(tower, f, g):
    """The monic polynomial of greatest degree that divides both, which are not both nothing."""
    one = f
    other = g
    while other != []:
        one, other = other, over_poly(tower, one, other)[1]
    return monic_of(tower, one)


def derived_poly(tower, f):
    """The derivative of a polynomial."""
    terms = [tower.times(tower.whole(at), term) for at, term in enumerate(f)]
    return without_noughts(tower, terms[1:])


def power_by(tower, g, n, f):
    """The rest of g to the power of n, from 1 on, by f, monic."""
    told = [tower.one()]
    square = g
    left = n
    while left > 0:
        if left % 2 == 1:
            told = over_monic(tower, times_poly(tower, told, square), f)[1]
        left = left // 2
        if left > 0:
            square = over_monic(tower, times_poly(tower, square, square), f)[1]
    return told


def letter_of(tower):
    """The letter, as a polynomial."""
    return [tower.zero(), tower.one()]


def letter_to_powers(tower, f, many):
    """The rests by f, monic, of the letter to the power of the prime to the power of each number from 0 to many."""
    told = [over_monic(tower, letter_of(tower), f)[1]]
    for turn in range(many):
        told.append(power_by(tower, told[-1], tower.p, f))
    return told


def primes_in(n):
    """The primes that divide a whole number from 1 on."""
    return [r for r in range(2, n + 1) if n % r == 0 and all([r % low != 0 for low in range(2, r)])]


def is_alone(tower, f):
    """Whether a polynomial over the tower is monic, of degree 1 and more, and no product of two such."""
    if len(f) < 2 or f[-1] != tower.one():
        return False
    degree = len(f) - 1
    if degree == 1:
        return True
    powers = letter_to_powers(tower, f, tower.degree() * degree)
    if powers[-1] != powers[0]:
        return False
    for r in primes_in(degree):
        ahead = powers[tower.degree() * degree // r]
        if common_poly(tower, f, minus_poly(tower, ahead, powers[0])) != [tower.one()]:
            return False
    return True


def stay_at_power(tower, f):
    """Polynomials of lesser degree than f, monic, that are their own power of p by f; all such are sums of theirs.

    By each power of an alone polynomial that f is made of, such a one is a rest by p.
    """
    p = tower.p
    each = tower.degree()
    degree = len(f) - 1
    units = [tower.made_of([1 if at == place else 0 for at in range(each)]) for place in range(each)]
    raised = [tower.power(unit, p) for unit in units]
    step = letter_to_powers(tower, f, 1)[1]
    power = [tower.one()]
    rows = []
    for place in range(degree):
        for unit, unit_raised in zip(units, raised):
            term = [tower.zero() for at in range(place)] + [unit]
            rows.append(poly_figures(tower, minus_poly(tower, scaled_poly(tower, unit_raised, power), term), degree))
        power = over_monic(tower, times_poly(tower, power, step), f)[1]
    return [poly_of_figures(tower, row) for row in kernel(rows, p)]


def poly_figures(tower, f, many):
    """The rests by the prime that a polynomial of degree below many is made of."""
    told = []
    for term in f:
        told = told + tower.figures(term)
    return told + [0] * (many * tower.degree() - len(told))


def poly_of_figures(tower, figures):
    """The polynomial that is made of these rests by the prime."""
    each = tower.degree()
    terms = [tower.made_of(figures[at:at + each]) for at in range(0, len(figures), each)]
    return without_noughts(tower, terms)


def parted_by(tower, f, g):
    """What f, monic, has in common with g less each rest by the prime, where it is more than 1."""
    rest = over_monic(tower, g, f)[1]
    if len(rest) < 2:
        # It is the same rest by all that f is made of, so it parts nothing.
        return [f]
    told = []
    for k in range(tower.p):
        # Nought, as a polynomial, is nothing.
        number = without_noughts(tower, [tower.whole(k)])
        part = common_poly(tower, f, minus_poly(tower, rest, number))
        if len(part) > 1:
            told.append(part)
    return told


def powers_of_parts(tower, f):
    """The greatest powers of alone polynomials that divide f, monic, of degree 1 and more."""
    told = [f]
    for g in stay_at_power(tower, f):
        finer = []
        for part in told:
            finer = finer + parted_by(tower, part, g)
        told = finer
    return told


def root_by_prime(tower, f):
    """The polynomial that to the power of the prime is f, whose derivative is nothing."""
    n = number_power(tower.p, tower.degree() - 1)
    return [tower.power(term, n) for term in f[::tower.p]]


def part_and_times(tower, f):
    """The alone polynomial that f, monic, is a power of, and how often it goes."""
    base = f
    while derived_poly(tower, base) == []:
        base = root_by_prime(tower, base)
    part = over_monic(tower, base, common_poly(tower, base, derived_poly(tower, base)))[0]
    return (part, (len(f) - 1) // (len(part) - 1))


def parts_of(tower, f):
    """The tuples (part, how often) of a monic polynomial of degree 1 and more, in order of degrees, then of lists."""
    found = [part_and_times(tower, power) for power in powers_of_parts(tower, f)]
    return sorted(found, key=lambda pair: (len(pair[0]), pair[0]))
