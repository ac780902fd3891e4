"""Determinants, and what they tell of polynomials: resultants and discriminants."""

from branchdepth.polys import coefficient, derived, divided, multiplied


def place_of_lead(table):
    """The place of the first list that doesn't begin with 0, None where all do."""
    for at, row in enumerate(table):
        if row[0] != 0:
            return at
    return None


def lessened(table, at, divisor):
    """The table without its first places and without list at, whose first number is taken across."""
    top = table[at]
    others = table[:at] + table[at + 1:]
    return [
        [(top[0] * row[place] - row[0] * top[place]) // divisor for place in range(1, len(row))]
        for row in others
    ]


def determinant(table):
    """The determinant of a list of n lists of n whole numbers, 1 for n 0."""
    rows = table
    sign = 1
    lead = 1
    while rows != []:
        at = place_of_lead(rows)
        if at is None:
            return 0
        if at % 2 == 1:
            sign = -sign
        # All numbers of the lesser table are minors of the first one times the lead ahead,
        # so that lead goes into them: the numbers stay small, and no fractions are needed.
        rows, lead = lessened(rows, at, lead), rows[at][0]
    return sign * lead


def resultant(f, g):
    """The product of the values of g, other than nothing, at all zeros of f, monic, of degree 1 and more."""
    degree = len(f) - 1
    table = []
    rest = divided(g, f)[1]
    for turn in range(degree):
        table.append([coefficient(rest, place) for place in range(degree)])
        rest = divided(multiplied([0, 1], rest), f)[1]
    return determinant(table)


def discriminant(f):
    """The discriminant of a monic polynomial of degree 1 and more, 0 just where it has a square part."""
    degree = len(f) - 1
    told = resultant(f, derived(f))
    if degree * (degree - 1) // 2 % 2 == 1:
        return -told
    return told
