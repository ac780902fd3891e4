"""Branches that the tests ask, each with a key of its own degree that belongs to it and the e of its steps."""

from fractions import Fraction

from branchdepth.polys import added, multiplied, scaled


def power(f, many):
    told = [1]
    for turn in range(many):
        told = multiplied(told, f)
    return told


def branches_of(p, first, steps, keys, turns):
    """The branches with none of the steps, one of them, and so on: each with a key of its own degree, and all e."""
    return [((p, first, steps[:many]), keys[many], turns[:many]) for many in range(len(steps) + 1)]


A2 = [2, 0, 1]
A3 = [4, 4, 4, 0, 1]
A4 = added(power(A3, 3), [256])
WITH_FOUR_STEPS = branches_of(
    2, [0, 1],
    [([0, 1], (1, 2), [[1], [1]]), (A2, (5, 4), [[[1]], [[1]]]), (A3, (8, 3), [[[[1]]], [[[1]]]]),
     (A4, (17, 2), [[[[[1]]]], [[[[1]]]]])],
    [[0, 1], A2, A3, A4, added(A4, [0, 256])], [2, 2, 3, 1])

B1 = [1, 0, 1]
B2 = added(added(power(B1, 2), scaled(3, multiplied([2, 1], B1))), [9])
WITH_GREAT_PARTS = branches_of(
    3, B1,
    [(B1, (1, 1), [[1, 0], [2, 1], [1, 0]]), (B2, (5, 2), [[[1, 0], [0, 0]], [[1, 0], [0, 0]]])],
    [B1, B2, added(power(B2, 2), [243])], [1, 2])

C1 = [1, 1]
C2 = added(power(C1, 3), [5])
C3 = added(power(C2, 2), scaled(25, C1))
WITH_THREE_STEPS = branches_of(
    5, C1,
    [(C1, (1, 3), [[1], [1]]), (C2, (7, 6), [[[1]], [[1]]]), (C3, (5, 2), [[[[2]]], [[[0]]], [[[1]]]])],
    [C1, C2, C3, added(power(C3, 2), [2 * 5 ** 5])], [3, 2, 1])

D2 = [-47, 1]
WITH_STEPS_OF_DEGREE_ONE = branches_of(
    47, [0, 1], [([0, 1], (1, 1), [[46], [1]]), (D2, (3, 2), [[[1]], [[1]]])],
    [[0, 1], D2, added(power(D2, 2), [47 ** 3])], [1, 2])

E1 = [1, 1, 1]
WITH_A_FIRST_OF_DEGREE_TWO = branches_of(
    2, E1, [(E1, (1, 2), [[1, 0], [1, 0]])], [E1, added(power(E1, 2), [2])], [2])

ALL = (WITH_FOUR_STEPS + WITH_GREAT_PARTS + WITH_THREE_STEPS + WITH_STEPS_OF_DEGREE_ONE
       + WITH_A_FIRST_OF_DEGREE_TWO)


def drawn(source, kind, degree):
    """A polynomial of at most this degree, with the prime often in its numbers, or made of the keys."""
    p, first, steps = kind
    lower = [source.choice((0, 1, -1)) * source.randrange(1, 50) * p ** source.randrange(6) for place in range(degree)]
    told = lower + [source.choice((1, -1)) * p ** source.randrange(4)]
    keys = [key for key, size, part in steps if len(key) - 1 <= degree]
    if keys and source.randrange(2):
        key = source.choice(keys)
        told = scaled(p ** source.randrange(4), power(key, source.randrange(1, degree // (len(key) - 1) + 1)))
        more = scaled(p ** source.randrange(6), source.choice(keys))
        told = added(told, source.choice(([], [p ** source.randrange(5)], more))) or [1]
    return told


# Others, drawn once: many keys among them are no next keys.
FULL = (
    (2, [0, 1],
     [([0, 1], (3, 1), [[1], [1], [1]]), ([64, 8, 1], (9, 1), [[[1], [1]], [[1], [0]]]),
      ([576, 72, 1], (19, 2), [[[[0], [1]]], [[[1], [0]]]]),
      ([331776, 148480, 6336, 144, 1], (77, 4), [[[[[0], [1]]]], [[[[1], [0]]]]])],
     [110075314176, 137178906624, 31082414080, 2044198912, 83570688, 2121728, 33408, 288, 1]),
    (2, [0, 1],
     [([0, 1], (7, 3), [[1], [1]]), ([128, 0, 0, 1], (8, 1), [[[1]], [[1]]]),
      ([384, 0, 0, 1], (49, 6), [[[[1]]], [[[1]]]]),
      ([147456, 16384, 0, 768, 0, 0, 1], (50, 3), [[[[[1]]]], [[[[1]]]], [[[[1]]]]])],
     [21743271936, 6979321856, 872415232, 293601280, 25165824, 3145728, 884736, 32768, 4096, 1536, 0, 0, 1]),
    (2, [1, 0, 1, 1],
     [([25, 0, 1, 1], (5, 2), [[0, 1, 0], [1, 0, 0]]),
      ([625, 32, 50, 50, 1, 2, 1], (6, 1), [[[1, 0, 0]], [[1, 0, 0]]]),
      ([689, 32, 50, 50, 1, 2, 1], (15, 2), [[[[0, 1, 1]]], [[[1, 0, 0]]]]),
      ([689, 832, 850, 82, 65, 34, 1], (33, 4), [[[[[1, 0, 0]]]], [[[[1, 0, 0]]]]])],
     [884321, 1146496, 1879908, 1543780, 948518, 294412, 175178, 70124, 11501, 4584, 1286, 68, 1]),
    (3, [2, 2, 1],
     [([-16, 29, 1], (2, 1), [[1, 2], [1, 0]]), ([-7, 47, 1], (7, 3), [[[0, 2]], [[1, 0]]]),
      ([-343, 11283, -46242, 101849, 6606, 141, 1], (23, 3), [[[[2, 1]]], [[[1, 0]]]]),
      ([2303, -22926, 54522, 166190, 9198, 168, 1], (49, 6), [[[[[1, 1]]]], [[[[1, 0]]]]])],
     [-28176974, 85721604, 1006312320, -1729688635, -4605129408, 17701049472, 28614404282, 3075504780, 140552088,
      3422908, 46620, 336, 1]),
    (3, [2, 1],
     [([2, 1], (1, 1), [[2], [1], [1]]), ([28, 7, 1], (5, 2), [[[1], [2]], [[1], [0]]]),
      ([1351, 554, 105, 14, 1], (21, 4), [[[[2], [1]]], [[[1], [0]]]]),
      ([2315089, 1680616, 623431, 156355, 29239, 4048, 406, 28, 1], (43, 4), [[[[[1], [0]]]], [[[[1], [0]]]]])],
     [3336445, 2354779, 843994, 201742, 35476, 4615, 433, 28, 1]),
    (5, [1, 4, 1],
     [([1, 4, 1], (1, 1), [[4, 1], [1, 0]]), ([21, 9, 1], (5, 2), [[[4, 3]], [[1, 0]]]),
      ([12941, 9753, 123, 18, 1], (11, 2), [[[[3, 1]]], [[[1, 0]]]]),
      ([20816, 15753, 1623, 143, 1], (13, 2), [[[[[3, 4]]]], [[[[4, 1]]]], [[[[1, 0]]]]])],
     [1526145856, 5886540771, 1131263870, 263417614, 35360494, 2707559, 121195, 911, 1]),
    (7, [2, 6, 6, 1],
     [([-341, 6, 6, 1], (3, 2), [[5, 6, 4], [1, 0, 0]]),
      ([117996, -2034, -2684, -610, 48, 12, 1], (7, 2), [[[0, 0, 3]], [[1, 0, 0]]]),
      ([117996, -2034, -52811, 272, 930, 159, 1], (5, 1), [[[[5, 1, 4]]], [[[1, 0, 0]]]]),
      ([202031, 14773, 14417, 272, 930, 159, 1], (13, 2),
       [[[[[6, 3, 6]]]], [[[[0, 6, 6]]]], [[[[1, 0, 0]]]]])],
     [234594545775, -6747517416042, -7326982734093, -749807267214, -335308399207, 7178271518, -24857125066,
      -2629377178, 843515140, 207526594, 16766913, 101160, 1]),
    (7, [5, 1],
     [([1377, 1], (3, 2), [[6], [1]]), ([1898187, 2754, 1], (7, 2), [[[2]], [[1]]]),
      ([2033133, 2852, 1], (5, 1), [[[[2]]], [[[2]]], [[[1]]]]),
      ([4202536478849, 11692857760, 12233784, 5704, 1], (41, 4),
       [[[[[0]]], [[[1]]]], [[[[1]]], [[[0]]]]])],
     [17663211625744282686412510, 98283364994860566626593, 239551637869685765253, 334039006730909921,
      291462665242434, 162948723392, 57003184, 11408, 1]),
    (13, [2, 1],
     [([2, 1], (3, 1), [[5], [8], [1]]), ([24169201, 17580, 1], (7, 1), [[[4], [7]], [[1], [0]]]),
      ([275563123, 217507, 1], (8, 1), [[[[1], [12]]], [[[1], [0]]]]),
      ([1100204876, 4673023, 1], (19, 2), [[[[[1], [12]]]], [[[[1], [2]]]], [[[[1], [0]]]]])],
     [2162332069979060445600929376904087519706689, 11690127971109841723885082192708336613444,
      45828491341994727281497348766660321, 29527364601516005335724298003472, 489588660574494124307292358,
      409574432500717734126, 131027264570678, 18692092, 1]),
    (31, [21, 1],
     [([21, 1], (3, 2), [[13], [1]]), ([387724, 42, 1], (15, 4), [[[5]], [[1]]]),
      ([243517786681, 4470087221, 777212, 84, 1], (33, 4), [[[[23]]], [[[1]]]]),
      ([5822498972053, 270740198179, 43944371, 685277, 1], (35, 4), [[[[[12]]]], [[[[19]]]], [[[[1]]]]])],
     [1292441413361785181688383279, 61840819078674787201740254, 92432547650210383963442, 324576838606531542701,
      412777310082118414, 433551535397103, 470236409340, 1370554, 1]),
    (47, [45, 25, 1],
     [([45, 25, 1], (2, 1), [[14, 20], [1, 0]]), ([30971, 44205, 1], (3, 1), [[[23, 24]], [[1, 0]]]),
      ([2418900, 2535957, 1], (11, 2), [[[[4, 18]]], [[[1, 0]]]]),
      ([9888642711413259212, 44498878139964996054, 6431082743649, 5071914, 1], (49, 4),
       [[[[[27, 18]]]], [[[[1, 0]]]]])],
     [3942295118054278924186148310750422265844, 7473629503239726374753207774053337889633,
      4667189148056491653245127837487612593591, 1631927286333858746883626948686122, 492747811077710218268808337,
      154233553485273540480, 38586477110694, 10143828, 1]),
)


def turns_by_hand(steps):
    """The e of each step: the least number of times that makes its size a sum of those ahead, found by trying."""
    told = []
    ahead = {Fraction(0)}
    for key, size, part in steps:
        size = Fraction(*size)
        turn = 1
        while turn * size % 1 not in ahead:
            turn += 1
        told.append(turn)
        ahead = {(low + many * size) % 1 for low in ahead for many in range(turn)}
    return told


DRAWN = []
for p, first, steps, last in FULL:
    DRAWN += branches_of(p, first, steps, [step[0] for step in steps] + [last], turns_by_hand(steps))
EVERY = ALL + DRAWN


def as_tuple(u):
    """A Fraction as the program has it."""
    return (u.numerator, u.denominator)


def degree_by_hand(kind):
    p, first, steps = kind
    told = len(first) - 1
    for turn, (key, size, part) in zip(turns_by_hand(steps), steps):
        told *= turn * (len(part) - 1)
    return told


def low_one(source, kind, degree=None):
    """A polynomial, other than nothing, of lesser degree than a branch's: often with keys and powers of p in it."""
    p, first, steps = kind
    below = degree_by_hand(kind) if degree is None else degree + 1
    told = []
    for turn in range(source.randrange(1, 4)):
        term = [source.choice((1, -1)) * source.randrange(1, 60) * p ** source.randrange(4)]
        pieces = [[0, 1]] + [key for key, size, part in steps]
        for piece in source.sample(pieces, source.randrange(len(pieces) + 1)):
            grown = multiplied(term, power(piece, source.randrange(1, 4)))
            if len(grown) <= below:
                term = grown
        told = added(told, term)
    return told or [p]
