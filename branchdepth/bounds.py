"""The bounds of leaves, factors, roots and bases: what is outside of them is refused here, for all of them."""

from branchdepth.errors import NoPolynomial, NoPrime, NotPlain, TooDeep
from branchdepth.plains import discriminant
from branchdepth.polys import is_monic
from branchdepth.sizes import is_prime, is_whole, size_of_number

MOST_DEGREE = 12
MOST_SIZE = 40
MOST_FACTORS_DEGREE = 6
MOST_FACTORS_SIZE = 20
MOST_FIGURES = 20
MOST_BASIS_DEGREE = 6
MOST_BASIS_SIZE = 24


def is_bounded_monic(thing):
    """Whether any thing is a monic polynomial of degree 1 to 12."""
    return is_monic(thing) and 2 <= len(thing) <= MOST_DEGREE + 1


def plain_size(f, p):
    """The size by p of the discriminant of f; refused are f and p of the wrong form, and square parts."""
    if not is_prime(p):
        raise NoPrime("this is none of the primes below 50")
    if not is_bounded_monic(f):
        raise NoPolynomial("this is no monic polynomial of degree 1 to 12")
    size = size_of_number(discriminant(f), p)
    if size is None:
        raise NotPlain("the polynomial has a square part")
    return size


def discriminant_size(f, p):
    """The size by p of the discriminant of f, of any f and p; refused are those out of the bounds of leaves."""
    size = plain_size(f, p)
    if size > MOST_SIZE:
        raise TooDeep("the size of the discriminant is above 40")
    return size


def is_number_of_figures(thing):
    """Whether any thing is a number of figures that factors and roots are told to."""
    return is_whole(thing) and 1 <= thing <= MOST_FIGURES


def refuse_for_factors(f, p, n):
    """Refuses any f, p and n that are out of the bounds of factors and roots."""
    size = plain_size(f, p)
    if len(f) - 1 > MOST_FACTORS_DEGREE or size > MOST_FACTORS_SIZE or not is_number_of_figures(n):
        raise TooDeep("factors are told of degree at most 6, size at most 20, to 1 to 20 figures")


def refuse_for_basis(f, p):
    """Refuses any f and p that are out of the bounds of bases."""
    size = plain_size(f, p)
    if len(f) - 1 > MOST_BASIS_DEGREE or size > MOST_BASIS_SIZE:
        raise TooDeep("bases are told of degree at most 6, size at most 24")
