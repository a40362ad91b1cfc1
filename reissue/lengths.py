"""Lengths of walks along steps.

A step is a tuple (before, after, length) of two places, 0 to size - 1, and a number of at least 0. A length is a
number, ENDLESS where there is no greatest one, or None where there is no walk.
"""

ENDLESS = "endless"


def shortest(size, steps, start):
    """Return the list of the least lengths of walks from the start to each place; the steps have numbers only."""
    found = [None] * size
    found[start] = 0
    # A shortest walk needs no place twice, so it is found in so many rounds.
    for _ in range(size):
        for before, after, length in steps:
            found[after] = lesser(found[after], total(found[before], length))
    return found


def longest(size, steps, start):
    """Return the list of the greatest lengths of walks from the start to each place; steps may be ENDLESS."""
    found = [None] * size
    found[start] = 0
    for turn in range(2 * size):
        for before, after, length in steps:
            reached = greater(found[after], total(found[before], length))
            if reached != found[after]:
                # What still grows after so many rounds lies behind a ring that grows with each time around. The
                # rounds from there on carry this to all places behind it.
                found[after] = reached if turn < size else ENDLESS
    return found


def total(one, other):
    """Return the length of two walks, one behind the other."""
    if one is None or other is None:
        return None
    if one == ENDLESS or other == ENDLESS:
        return ENDLESS
    return one + other


def lesser(one, other):
    """Return the lesser of two lengths, neither of them ENDLESS."""
    if one is None:
        return other
    return one if other is None or one <= other else other


def greater(one, other):
    """Return the greater of two lengths."""
    if one is None or other == ENDLESS:
        return other
    return one if other is None or one == ENDLESS or one >= other else other
