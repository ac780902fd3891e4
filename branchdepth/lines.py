"""Broken lines below sizes by places."""

from branchdepth.fractions import is_less, least, minus, over, plus


def slope_between(sizes, s, t):
    """What a line from the size at s to that at t rises by for each place."""
    return over(minus(sizes[t], sizes[s]), (t - s, 1))


def next_side(sizes, places, s):
    """The side that begins at place s, of the places that have a size."""
    behind = [t for t in places if t > s]
    slope = least([slope_between(sizes, s, t) for t in behind])
    # The side goes on as long as a place lies upon it.
    t = max([t for t in behind if slope_between(sizes, s, t) == slope])
    return (s, t, slope)


def sides(sizes):
    """The sides (s, t, slope) of the line of a list of fractions and None, the last one a fraction."""
    places = [place for place, size in enumerate(sizes) if size is not None]
    told = []
    s = places[0]
    while s < places[-1]:
        side = next_side(sizes, places, s)
        told.append(side)
        s = side[1]
    return told


def joined(one, other):
    """Two lists of sizes put together: at each place the least of the sums of sizes at places that sum to it."""
    told = [None] * (len(one) + len(other) - 1)
    for at, size in enumerate(one):
        for place, more in enumerate(other, start=at):
            if size is not None and more is not None:
                total = plus(size, more)
                if told[place] is None or is_less(total, told[place]):
                    told[place] = total
    return told
