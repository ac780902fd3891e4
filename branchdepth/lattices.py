"""Rows of whole numbers: what their whole multiples sum to, together with all multiples of a power of a prime."""

from branchdepth.sizes import number_power, size_of_number, taken_out


def back_by(k, power):
    """What k, which the prime doesn't go into, is multiplied with to be 1 by the rests of a power of the prime."""
    one, other = k, power
    factor, next_factor = 1, 0
    # By the power, k times the factor is the one all along, and it comes to 1 in the end.
    while other != 0:
        quotient = one // other
        one, other = other, one - quotient * other
        factor, next_factor = next_factor, factor - quotient * next_factor
    return factor % power


def unit_row(width, place, number):
    """A row that has a number at a place, else noughts."""
    return [number if at == place else 0 for at in range(width)]


def lead_at(rows, place, p, power):
    """A row that has at a place a power of p, which goes into all numbers that the rows have there."""
    those = [row for row in rows if row[place] != 0]
    if those == []:
        return unit_row(len(rows[0]), place, power)
    row = min(those, key=lambda one: size_of_number(one[place], p))
    back = back_by(taken_out(row[place], p)[1], power)
    return [back * number % power for number in row]


def without(rows, lead, place, power):
    """The rows, each less so often the lead that it is 0 at a place; and what the lead itself leaves there."""
    told = []
    for row in rows:
        often = row[place] // lead[place]
        told.append([(number - often * more) % power for number, more in zip(row, lead)])
    # So often the lead is, but for a multiple of the power, nought at the place: what it has elsewhere still counts.
    often = power // lead[place]
    return told + [[often * number % power for number in lead]]


def triangular(rows, p, depth):
    """As many rows as places, with noughts behind their own place and a power of p there.

    With whole multiples they sum to just what the rows handed in, and all rows of multiples of p to the power of
    depth, sum to.
    """
    power = number_power(p, depth)
    left = [[number % power for number in row] for row in rows]
    told = []
    for place in reversed(range(len(rows[0]))):
        lead = lead_at(left, place, p, power)
        left = without(left, lead, place, power)
        told.append(lead)
    told.reverse()
    return told


def coordinates(lattice, row):
    """How often each row of a triangular lattice is taken to sum to a row."""
    left = row
    told = []
    for place in reversed(range(len(row))):
        often = left[place] // lattice[place][place]
        left = [number - often * more for number, more in zip(left, lattice[place])]
        told.append(often)
    told.reverse()
    return told


def summed(numbers, rows):
    """The sum of so many of each row."""
    return [sum([many * row[place] for many, row in zip(numbers, rows)]) for place in range(len(rows[0]))]
