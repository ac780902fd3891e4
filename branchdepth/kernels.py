"""Rows of rests by a prime: which sums of multiples of them come to nought."""


def without_lead(row, lead_row, place, p):
    """A row from which so much of another one, with 1 at a place, is taken that it is 0 there."""
    factor = row[place]
    return [(one - factor * other) % p for one, other in zip(row, lead_row)]


def with_lead_one(row, place, p):
    """A row, not 0 at a place, times the number that makes it 1 there."""
    back = 1
    while back * row[place] % p != 1:
        back += 1
    return [back * one % p for one in row]


def first_lead(rows, place):
    """The number of the first row that is not 0 at a place, None where all are."""
    for at, row in enumerate(rows):
        if row[place] != 0:
            return at
    return None


def kernel(rows, p):
    """Rows of factors such that the sums of so many of each row are nought, by rests; all such are sums of theirs."""
    many = len(rows)
    width = len(rows[0])
    # Behind each row stands from which rows it is made, so what was done to the rows can be read off.
    left = [row + [1 if place == at else 0 for place in range(many)] for at, row in enumerate(rows)]
    for place in range(width):
        at = first_lead(left, place)
        if at is not None:
            lead_row = with_lead_one(left[at], place, p)
            left = [without_lead(row, lead_row, place, p) for row in left[:at] + left[at + 1:]]
    return [row[width:] for row in left]
