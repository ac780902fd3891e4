"""How the elements of a tower are reckoned: rests by a prime, and on top of them rests by one part after another.

Nothing is looked through here: the parts are known to make a tower.
"""

from branchdepth.copies import copied
from branchdepth.parts import minus_poly, over_poly, scaled_poly, times_poly, without_noughts
from branchdepth.sizes import is_whole, number_power


def power_in(storey, u, n):
    """An element of a storey to the power of n, from 0 on."""
    if n == 0:
        return storey.one()
    if storey.is_nought(u):
        return storey.zero()
    # To the power of one less than all elements each one but nought is one: so great powers come home.
    left = n % (number_power(storey.p, storey.degree()) - 1)
    told = storey.one()
    square = u
    while left > 0:
        if left % 2 == 1:
            told = storey.times(told, square)
        square = storey.times(square, square)
        left = left // 2
    return told


class Ground:
    """The rests by a prime: whole numbers from 0 on, below it."""

    def __init__(self, p):
        self.p = p

    def degree(self):
        """1: each element is one rest."""
        return 1

    def zero(self):
        """Nought."""
        return 0

    def one(self):
        """One."""
        return 1

    def whole(self, k):
        """A whole number by its rest."""
        return k % self.p

    def plus(self, u, v):
        """The sum of two."""
        return (u + v) % self.p

    def minus(self, u, v):
        """The difference of two."""
        return (u - v) % self.p

    def times(self, u, v):
        """The product of two."""
        return u * v % self.p

    def back(self, u):
        """What an element other than nought is multiplied with to be one."""
        return self.power(u, self.p - 2)

    def power(self, u, n):
        """An element to the power of n, from 0 on."""
        return power_in(self, u, n)

    def is_nought(self, u):
        """Whether an element is nought."""
        return u == 0

    def is_element(self, thing):
        """Whether any thing is an element."""
        return is_whole(thing) and 0 <= thing < self.p

    def figures(self, u):
        """The rests that an element is made of."""
        return [u]

    def made_of(self, figures):
        """The element that is made of these rests."""
        return figures[0]


class Storey:
    """The rests by a part of polynomials over the floor: lists of as many elements of it as the part has degree."""

    def __init__(self, floor, part):
        self.floor = floor
        self.p = floor.p
        self.part = copied(part)

    def width(self):
        """The degree of the part."""
        return len(self.part) - 1

    def degree(self):
        """How many rests by the prime an element has."""
        return self.floor.degree() * self.width()

    def zero(self):
        """Nought."""
        return [self.floor.zero() for place in range(self.width())]

    def one(self):
        """One."""
        return self.lifted(self.floor.one())

    def letter(self):
        """The letter of the part."""
        return self.by_part([self.floor.zero(), self.floor.one()])

    def whole(self, k):
        """A whole number by its rest."""
        return self.lifted(self.floor.whole(k))

    def lifted(self, u):
        """An element of the floor as one of this storey."""
        return [copied(u)] + [self.floor.zero() for place in range(1, self.width())]

    def plus(self, u, v):
        """The sum of two."""
        return [self.floor.plus(one, other) for one, other in zip(u, v)]

    def minus(self, u, v):
        """The difference of two."""
        return [self.floor.minus(one, other) for one, other in zip(u, v)]

    def times(self, u, v):
        """The product of two."""
        floor = self.floor
        if self.width() == 1:
            # Most parts are of degree 1, many on top of one another: there is nothing to go through.
            return [floor.times(u[0], v[0])]
        product = [floor.zero() for place in range(2 * self.width() - 1)]
        for at, one in enumerate(u):
            # Many elements have few terms: a term that is nought isn't multiplied.
            if not floor.is_nought(one):
                for place, other in enumerate(v, start=at):
                    product[place] = floor.plus(product[place], floor.times(one, other))
        return self.by_part(product)

    def back(self, u):
        """What an element other than nought is multiplied with to be one."""
        floor = self.floor
        rest_ahead = self.part
        rest = without_noughts(floor, u)
        factor_ahead = []
        factor = [floor.one()]
        # By the part, u times the factor is the rest all along. The part is alone, so a number comes in the end.
        while len(rest) > 1:
            quotient, next_rest = over_poly(floor, rest_ahead, rest)
            next_factor = minus_poly(floor, factor_ahead, times_poly(floor, quotient, factor))
            rest_ahead, rest = rest, next_rest
            factor_ahead, factor = factor, next_factor
        return self.by_part(scaled_poly(floor, floor.back(rest[0]), factor))

    def power(self, u, n):
        """An element to the power of n, from 0 on."""
        return power_in(self, u, n)

    def by_part(self, terms):
        """The element that these terms come to by the part, of a list of the asker's own."""
        floor = self.floor
        width = self.width()
        told = terms + [floor.zero() for place in range(len(terms), width)]
        while len(told) > width:
            lead = told.pop()
            if not floor.is_nought(lead):
                for at in range(width):
                    place = len(told) - width + at
                    told[place] = floor.minus(told[place], floor.times(lead, self.part[at]))
        return told

    def is_nought(self, u):
        """Whether an element is nought."""
        for term in u:
            if not self.floor.is_nought(term):
                return False
        return True

    def is_element(self, thing):
        """Whether any thing is an element."""
        if not isinstance(thing, list) or len(thing) != self.width():
            return False
        for term in thing:
            if not self.floor.is_element(term):
                return False
        return True

    def figures(self, u):
        """The rests by the prime that an element is made of."""
        told = []
        for term in u:
            told = told + self.floor.figures(term)
        return told

    def made_of(self, figures):
        """The element that is made of these rests by the prime."""
        each = self.floor.degree()
        return [self.floor.made_of(figures[at * each:(at + 1) * each]) for at in range(self.width())]
