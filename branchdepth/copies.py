"""Copies, so that nothing handed in is kept and nothing told is shared."""


def copied(thing):
    """A list or a tuple with all lists within it anew; what is neither stays."""
    if isinstance(thing, list):
        return [copied(inner) for inner in thing]
    if isinstance(thing, tuple):
        return tuple([copied(inner) for inner in thing])
    return thing
