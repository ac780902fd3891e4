"""The whole basis of a polynomial by a prime.

What is whole is found by growing: a lattice of polynomials by f, over a power of p, that is closed under products
is looked at by its rests by p. What has a power that is nought there is multiplied into itself by the lattice, and,
as long as the lattice is not all that is whole, by something beyond it, too.
"""

from branchdepth.bounds import refuse_for_basis
from branchdepth.kernels import kernel
from branchdepth.lattices import coordinates, summed, triangular, unit_row
from branchdepth.polys import coefficient, divided, multiplied, without_noughts_behind
from branchdepth.sizes import number_power, size_of_number


def product_by(f, one, other, power):
    """The product, by f, of two rows that stand for polynomials over a power of p, as such a row."""
    product = multiplied(without_noughts_behind(one), without_noughts_behind(other))
    rest = divided(product, f)[1]
    return [coefficient(rest, place) // power for place in range(len(one))]


def table_of(f, lattice, power):
    """At the places i and j the coordinates of the product of the rows i and j of a lattice."""
    return [[coordinates(lattice, product_by(f, one, other, power)) for other in lattice] for one in lattice]


def times_by(table, one, other, p):
    """The product of two rows of coordinates, by their rests by p."""
    row = summed(one, [summed(other, line) for line in table])
    return [number % p for number in row]


def power_by(table, row, n, p):
    """A row of coordinates to the power of n, from 1 on, by its rests by p."""
    told = row
    for turn in range(n - 1):
        told = times_by(table, told, row, p)
    return told


def raised(table, p):
    """Each row of the lattice, by its rests by p, to a power of p that is at least as great as there are rows."""
    many = len(table)
    told = [unit_row(many, place, 1) for place in range(many)]
    reached = 1
    while reached < many:
        told = [power_by(table, row, p, p) for row in told]
        reached = reached * p
    return told


def multipliers(table, p):
    """Rows of coordinates that, over p, multiply into itself what has a power that is nought by the rests by p."""
    # To a power of p is a sum raised term by term, so sums of rows are nought where those of the raised ones are.
    low = kernel(raised(table, p), p)
    if low == []:
        return []
    ideal = triangular(low, p, 1)
    rows = []
    for line in table:
        row = []
        for one in ideal:
            row = row + [number % p for number in coordinates(ideal, summed(one, line))]
        rows.append(row)
    return kernel(rows, p)


def grown(f, p):
    """The lattice of all that is whole, and the depth: its rows stand for polynomials over p to that power."""
    degree = len(f) - 1
    lattice = [unit_row(degree, place, 1) for place in range(degree)]
    depth = 0
    found = multipliers(table_of(f, lattice, 1), p)
    while found != []:
        deeper = [[p * number for number in row] for row in lattice]
        depth += 1
        lattice = triangular(deeper + [summed(numbers, lattice) for numbers in found], p, depth)
        found = multipliers(table_of(f, lattice, number_power(p, depth)), p)
    return (lattice, depth)


def whole_basis(f, p):
    """The tuples (g, k) of any f by any p; refused are those out of bounds."""
    refuse_for_basis(f, p)
    lattice, depth = grown(f, p)
    told = []
    for place, row in enumerate(lattice):
        # The letter times the rows ahead is whole, too: so what stands at the place goes into all numbers of a row.
        lead = row[place]
        told.append(([number // lead for number in row[:place + 1]], depth - size_of_number(lead, p)))
    return told
