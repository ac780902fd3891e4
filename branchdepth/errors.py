"""What the program refuses with: one class for each refusal."""


class BranchError(ValueError):
    """Any refusal."""


class NoPrime(BranchError):
    """What was handed in is none of the primes below 50."""


class NoPolynomial(BranchError):
    """What was handed in is no polynomial of the form and degree asked for."""


class NotPlain(BranchError):
    """The polynomial has a square part."""


class TooDeep(BranchError):
    """The degree, the discriminant's size or the number of figures is out of bounds."""


class NoTower(BranchError):
    """What was handed in is no list of parts that makes a tower."""


class NoSize(BranchError):
    """The fraction is no size that there is by the branch."""


class NoText(BranchError):
    """The text is no polynomial's."""


class NoRow(BranchError):
    """The row is none that a desk takes."""
