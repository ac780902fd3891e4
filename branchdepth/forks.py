"""Leaves: tuples (first, forks), forks a list of tuples (key, size, part); and the branches that they make."""

from branchdepth.branches import turn_of


def steps_of(forks):
    """The forks that no other fork with a key of the same degree follows, without one of size None."""
    told = []
    for at, fork in enumerate(forks):
        degrees_behind = [len(key) for key, size, part in forks[at + 1:]]
        if fork[1] is not None and len(fork[0]) not in degrees_behind:
            told.append(fork)
    return told


def is_exchanged(kind, fork):
    """Whether a fork behind a branch has e and a part's degree 1, so that its key gives way to the next one."""
    key, size, part = fork
    return turn_of(kind, size) == 1 and len(part) == 2
