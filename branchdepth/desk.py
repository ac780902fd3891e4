"""A desk, which has a polynomial and a prime and answers rows of words."""

from branchdepth.basis import whole_basis
from branchdepth.bounds import is_bounded_monic
from branchdepth.errors import NoPolynomial, NoPrime, NoRow
from branchdepth.factors import factors, roots
from branchdepth.leaves import in_common, index_of, leaf_numbers, leaves
from branchdepth.plains import discriminant
from branchdepth.sizes import is_prime, size_of_number
from branchdepth.texts import is_figures, number_text, read_polynomial, written

# How many numbers stand behind each word.
NUMBERS = {
    "prime": 1, "size": 1, "discriminant": 0, "numbers": 0, "index": 0, "common": 2, "factors": 1, "roots": 1,
    "basis": 0,
}


def read_number(word):
    """The whole number that is written so."""
    figures = word[1:] if word.startswith("-") else word
    if not is_figures(figures) or (figures.startswith("0") and word != "0"):
        raise NoRow("this is no number written plainly")
    return int(word)


def numbers_in(row):
    """The numbers behind the first word of a row."""
    words = row.split(" ")
    if words[0] not in NUMBERS or len(words) - 1 != NUMBERS[words[0]]:
        raise NoRow("this is no row")
    return [read_number(word) for word in words[1:]]


def told_size(f, p, numbers):
    """The size of a whole number."""
    size = size_of_number(numbers[0], p)
    return "none" if size is None else number_text(size)


def told_discriminant(f, p, numbers):
    """The discriminant."""
    return number_text(discriminant(f))


def told_numbers(f, p, numbers):
    """The two numbers of each leaf."""
    pairs = [leaf_numbers(p, leaf) for leaf in leaves(f, p)]
    return " ".join([f"{one},{other}" for one, other in pairs])


def told_index(f, p, numbers):
    """The index of the leaves."""
    return number_text(index_of(p, leaves(f, p)))


def told_common(f, p, numbers):
    """What two leaves have in common."""
    found = leaves(f, p)
    one, other = numbers
    if one == other or min(numbers) < 1 or max(numbers) > len(found):
        raise NoRow("these are no two leaves")
    # It is the size of a whole number, so the bottom is 1.
    return number_text(in_common(p, found[one - 1], found[other - 1])[0])


def told_factors(f, p, numbers):
    """The factors to a number of figures."""
    return "; ".join([written(factor) for factor in factors(f, p, numbers[0])])


def told_roots(f, p, numbers):
    """The roots to a number of figures."""
    return " ".join([number_text(root) for root in roots(f, p, numbers[0])])


def told_basis(f, p, numbers):
    """The powers of the whole basis."""
    return " ".join([number_text(k) for g, k in whole_basis(f, p)])


DEEDS = {
    "size": told_size, "discriminant": told_discriminant, "numbers": told_numbers, "index": told_index,
    "common": told_common, "factors": told_factors, "roots": told_roots, "basis": told_basis,
}


class Desk:
    """A desk; at first it has x and 2."""

    def __init__(self):
        self.polynomial = [0, 1]
        self.prime = 2

    def take_prime(self, k):
        """Keeps a prime."""
        if not is_prime(k):
            raise NoPrime("this is none of the primes below 50")
        self.prime = k
        return "ok"

    def take_polynomial(self, text):
        """Keeps the polynomial that is written so."""
        f = read_polynomial(text)
        if not is_bounded_monic(f):
            raise NoPolynomial("this is no monic polynomial of degree 1 to 12")
        self.polynomial = f
        return "ok"

    def say(self, row):
        """The answer to a row, of any thing."""
        if not isinstance(row, str):
            raise NoRow("this is no text")
        word, blank, behind = row.partition(" ")
        if word == "polynomial" and blank == " ":
            return self.take_polynomial(behind)
        numbers = numbers_in(row)
        if word == "prime":
            return self.take_prime(numbers[0])
        deed = DEEDS[word]
        return deed(self.polynomial, self.prime, numbers)
