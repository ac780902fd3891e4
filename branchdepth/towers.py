"""Towers of rests over a prime."""

from branchdepth.copies import copied
from branchdepth.errors import NoPrime, NoTower
from branchdepth.parts import is_alone, letter_of
from branchdepth.sizes import is_prime
from branchdepth.storeys import Ground, Storey

MOST_PARTS = 5
MOST_DEGREE = 12


def is_monic_over(top, thing):
    """Whether any thing is a polynomial over a storey, the last one 1, of degree 1 and more."""
    if not isinstance(thing, list) or len(thing) < 2:
        return False
    for term in thing:
        if not top.is_element(term):
            return False
    return thing[-1] == top.one()


def is_next_part(top, thing):
    """Whether any thing is a part on top of a storey, the letter alone let by."""
    # The bound comes first: there the powers that tell what is alone stay few.
    if not is_monic_over(top, thing) or top.degree() * (len(thing) - 1) > MOST_DEGREE:
        return False
    return is_alone(top, thing)


def top_of_any(p, parts):
    """The uppermost storey of the tower of any thing as its parts, over a prime."""
    if not isinstance(parts, list) or len(parts) > MOST_PARTS:
        raise NoTower("the parts of a tower are a list of none to five")
    top = Ground(p)
    for at, part in enumerate(parts):
        if not is_next_part(top, part) or (at > 0 and part == letter_of(top)):
            raise NoTower("this is no part of a tower here")
        top = Storey(top, part)
    return top


class Tower:
    """The tower over a prime p that is made of a list of parts."""

    def __init__(self, p, parts):
        if not is_prime(p):
            raise NoPrime("this is none of the primes below 50")
        self.top = top_of_any(p, parts)
        self.p = p
        self.parts = copied(parts)
        # The field may be changed by whoever has the tower: what the tower itself is made of is kept apart.
        self.kept = copied(parts)

    def degree(self):
        """The product of the degrees of all parts."""
        return self.top.degree()

    def zero(self):
        """Nought."""
        return self.top.zero()

    def one(self):
        """One."""
        return self.top.one()

    def letter(self):
        """The letter of the last part, of a tower with parts."""
        return self.top.letter()

    def whole(self, k):
        """A whole number by its rest."""
        return self.top.whole(k)

    def plus(self, u, v):
        """The sum of two elements."""
        return self.top.plus(u, v)

    def minus(self, u, v):
        """The difference of two elements."""
        return self.top.minus(u, v)

    def times(self, u, v):
        """The product of two elements."""
        return self.top.times(u, v)

    def back(self, u):
        """What an element other than nought is multiplied with to be one."""
        return self.top.back(u)

    def power(self, u, n):
        """An element to the power of n, from 0 on."""
        return self.top.power(u, n)

    def is_nought(self, u):
        """Whether an element is nought."""
        return self.top.is_nought(u)

    def is_element(self, thing):
        """Whether any thing is an element."""
        return self.top.is_element(thing)

    def figures(self, u):
        """The rests by the prime that an element is made of."""
        return self.top.figures(u)

    def made_of(self, figures):
        """The element that is made of these rests by the prime."""
        return self.top.made_of(figures)

    def below(self):
        """The tower without its last part."""
        return Tower(self.p, self.kept[:-1])

    def lifted(self, u):
        """An element of the tower below as one of this."""
        return self.top.lifted(u)
