"""Towers that the tests ask, and how their elements are reckoned by hand: as sums of powers of all letters."""

PRIMES = (2, 3, 5, 7, 11, 13, 17, 19, 23, 29, 31, 37, 41, 43, 47)

# The parts of each, of one to five parts, of degrees from 1 to 12.
SMALL = (
    (2, [[0, 1]]),
    (2, [[1, 1]]),
    (2, [[1, 1, 1]]),
    (2, [[1, 0, 1, 1]]),
    (2, [[0, 1], [[1], [1], [1]]]),
    (2, [[1, 1, 1], [[1, 0], [1, 0]]]),
    (2, [[1, 1, 1], [[1, 0], [1, 1], [1, 0]]]),
    (2, [[1, 1], [[1], [1]], [[[1]], [[1]]], [[[[1]]], [[[1]]]], [[[[[1]]]], [[[[1]]]], [[[[1]]]]]]),
    (3, [[0, 1]]),
    (3, [[2, 1, 1]]),
    (3, [[1, 1], [[2], [1], [1]]]),
    (3, [[1, 0, 1], [[1, 0], [2, 1], [1, 0]]]),
    (3, [[2, 1], [[1], [1]], [[[1]], [[0]], [[1]]], [[[[0]], [[2]]], [[[1]], [[0]]]],
         [[[[[1]], [[1]]]], [[[[1]], [[0]]]]]]),
    (5, [[3, 3, 1]]),
    (5, [[1, 1], [[3], [1]]]),
    (7, [[4, 0, 1]]),
    (7, [[1, 1], [[4], [1], [1]], [[[6], [3]], [[1], [0]]]]),
    (23, [[13, 1], [[10], [1]], [[[2]], [[1]]]]),
    (47, [[0, 1], [[46], [1]]]),
)
GREAT = (
    (2, [[1, 1, 1], [[0, 1], [1, 1], [0, 1], [1, 0]],
         [[[1, 0], [1, 0], [1, 0]], [[1, 1], [0, 0], [1, 0]], [[1, 0], [0, 0], [0, 0]]]]),
    (2, [[1, 1, 1, 1, 0, 1, 0, 0, 1, 0, 1, 1, 1]]),
    (3, [[1, 1, 2, 1], [[0, 2, 2], [1, 2, 0], [2, 2, 0], [2, 0, 2], [1, 0, 0]]]),
    (5, [[2, 0, 1], [[2, 2], [1, 0]], [[[3, 0]], [[1, 0]], [[0, 4]], [[1, 0]]]]),
    (7, [[5, 2, 1], [[3, 5], [3, 0], [1, 0]],
         [[[1, 1], [0, 4]], [[1, 3], [3, 0]], [[0, 4], [1, 4]], [[1, 0], [0, 0]]]]),
    (11, [[9, 1], [[2], [4], [7], [1]]]),
    (13, [[1, 8, 1], [[1, 1], [1, 0]]]),
    (17, [[1, 3, 7, 9, 1]]),
    (19, [[1, 16, 3, 1], [[9, 9, 3], [14, 13, 6], [1, 0, 0]]]),
    (29, [[13, 10, 1], [[28, 21], [9, 9], [1, 0]]]),
    (31, [[12, 11, 19, 24, 9, 1]]),
    (37, [[32, 18, 0, 15, 25, 23, 1],
          [[3, 6, 5, 30, 18, 12], [21, 21, 17, 14, 29, 35], [1, 0, 0, 0, 0, 0]]]),
    (41, [[11, 21, 1], [[30, 33], [31, 30], [7, 2], [36, 19], [10, 30], [1, 0]]]),
    (43, [[17, 1], [[26], [5], [34], [28], [15], [36], [1]],
          [[[15], [19], [28], [32], [27], [20]], [[1], [0], [0], [0], [0], [0]]]]),
    (47, [[32, 7, 13, 3, 43, 43, 31, 27, 35, 40, 34, 18, 1]]),
    (47, [[14, 18, 1], [[9, 39], [27, 7], [22, 25], [1, 0]],
          [[[12, 15], [46, 8], [4, 44]], [[10, 5], [41, 0], [45, 41]], [[1, 0], [0, 0], [0, 0]]]]),
    (47, [[18, 20, 1], [[27, 21], [1, 0]], [[[20, 14]], [[40, 33]], [[1, 0]]],
          [[[[41, 10]], [[44, 15]]], [[[1, 0]], [[0, 0]]]],
          [[[[[41, 45]], [[12, 35]]]], [[[[16, 22]], [[41, 43]]]], [[[[7, 42]], [[29, 18]]]],
           [[[[1, 0]], [[0, 0]]]]]]),
)
GROUNDS = tuple((p, []) for p in PRIMES)
ALL = GROUNDS + SMALL + GREAT


def degree_by_hand(parts):
    told = 1
    for part in parts:
        told *= len(part) - 1
    return told


def shaped(parts, numbers):
    """The element that is made of these numbers, one after the other; they are used up."""
    if not parts:
        return numbers.pop(0)
    return [shaped(parts[:-1], numbers) for place in range(len(parts[-1]) - 1)]


def drawn(source, p, parts):
    return shaped(parts, [source.randrange(p) for place in range(degree_by_hand(parts))])


def all_of(p, parts):
    """All elements of a tower."""
    many = degree_by_hand(parts)
    for k in range(p ** many):
        yield shaped(parts, [k // p ** place % p for place in range(many)])


def terms(parts, u):
    """An element as a dict from the powers of all letters to numbers."""
    if not parts:
        return {(): u}
    return {
        powers + (at,): number for at, inner in enumerate(u) for powers, number in terms(parts[:-1], inner).items()}


def product_of_terms(one, other):
    told = {}
    for powers, number in one.items():
        for more, factor in other.items():
            place = tuple(a + b for a, b in zip(powers, more))
            told[place] = told.get(place, 0) + number * factor
    return told


def lessened(p, parts, sums):
    """Terms in which no letter stands to the degree of its part or more: that power is what the part makes of it."""
    left = {powers: number % p for powers, number in sums.items() if number % p}
    while True:
        high = [powers for powers in left
                if any(power >= len(part) - 1 for power, part in zip(powers, parts))]
        if not high:
            return left
        powers = high[0]
        number = left.pop(powers)
        at = max(at for at, part in enumerate(parts) if powers[at] >= len(part) - 1)
        part = parts[at]
        for place in range(len(part) - 1):
            for inner, factor in terms(parts[:at], part[place]).items():
                made = tuple(
                    powers[k] + inner[k] if k < at else powers[k] - (len(part) - 1) + place if k == at else powers[k]
                    for k in range(len(parts)))
                left[made] = (left.get(made, 0) - number * factor) % p
                if left[made] == 0:
                    del left[made]


def element_of_terms(parts, found, powers=()):
    if not parts:
        return found.get(powers, 0)
    return [element_of_terms(parts[:-1], found, (at,) + powers) for at in range(len(parts[-1]) - 1)]


def times_by_hand(p, parts, u, v):
    product = product_of_terms(terms(parts, u), terms(parts, v))
    return element_of_terms(parts, lessened(p, parts, product))


def sum_by_hand(p, parts, u, v, sign=1):
    """The sum of two, or their difference where the sign is -1."""
    found = terms(parts, u)
    for powers, number in terms(parts, v).items():
        found[powers] = (found.get(powers, 0) + sign * number) % p
    return element_of_terms(parts, found)


def one_by_hand(parts):
    return shaped(parts, [1] + [0] * (degree_by_hand(parts) - 1))


def nought_by_hand(parts):
    return shaped(parts, [0] * degree_by_hand(parts))


def lists_in(thing):
    """All lists in a thing, itself among them."""
    if isinstance(thing, list):
        yield thing
    if isinstance(thing, (list, tuple)):
        for inner in thing:
            yield from lists_in(inner)


def spoil(thing):
    """Changes all lists in a thing."""
    for inner in list(lists_in(thing)):
        inner.append(99)
        inner[0] = 98


def is_own(told, handed):
    """Whether no list in what is told is one of those handed in, or stands in it twice."""
    kept = {id(inner) for inner in lists_in(handed)}
    told_lists = [id(inner) for inner in lists_in(told)]
    return not kept & set(told_lists) and len(told_lists) == len(set(told_lists))
