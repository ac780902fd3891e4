"""Sizes: how often a prime goes into whole numbers and fractions."""

PRIMES = (2, 3, 5, 7, 11, 13, 17, 19, 23, 29, 31, 37, 41, 43, 47)


def is_whole(thing):
    """Whether a thing is a whole number."""
    # Python counts True and False among the ints; here they are none.
    return isinstance(thing, int) and not isinstance(thing, bool)


def is_prime(k):
    """Whether any thing is one of the primes below 50."""
    return is_whole(k) and k in PRIMES


def number_power(k, n):
    """A whole number to the power of n, from 0 on."""
    told = 1
    for turn in range(n):
        told = told * k
    return told


def taken_out(k, p):
    """How often p goes into k, not 0, and what is left of k then."""
    size = 0
    while k % p == 0:
        k = k // p
        size += 1
    return (size, k)


def size_of_number(k, p):
    """The size of a whole number by p, None of 0."""
    if k == 0:
        return None
    return taken_out(k, p)[0]


def size_of(u, p):
    """The size of a fraction by p, None of 0."""
    top, bottom = u
    if top == 0:
        return None
    return size_of_number(top, p) - size_of_number(bottom, p)


def prime_sizes(k):
    """The tuples (prime, size) of a whole number from 1 on, primes rising."""
    found = []
    divisor = 2
    # A number that no divisor up to its root goes into is 1 or a prime,
    # so there is no need to go on up to k itself.
    while divisor * divisor <= k:
        size, k = taken_out(k, divisor)
        if size > 0:
            found.append((divisor, size))
        divisor += 1 if divisor == 2 else 2
    if k > 1:
        found.append((k, 1))
    return found


def all_sizes(u):
    """The tuples (prime, size) of a fraction other than 0, sizes not 0, primes rising."""
    top, bottom = u
    above = prime_sizes(abs(top))
    below = [(prime, -size) for prime, size in prime_sizes(bottom)]
    return sorted(above + below)
