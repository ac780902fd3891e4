"""Copies, so that nothing handed in is kept and nothing told is shared."""


def copied(thing):
    """A list with all lists within it anew; what is no list stays."""
    if isinstance(thing, list):
        return [copied(inner) for inner in thing]
    return thing
