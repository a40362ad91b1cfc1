"""Lengths of walks along steps.

A step is a tuple (before, after, length) of two places, 0 to size - 1, and a number of at least 0. A length is a
number, ENDLESS where there is no greatest one, or None where there is no walk.
"""

from reissue.groups import groups_of

ENDLESS = "endless"


def shortest(size, steps, start):
    """Return the list of the least lengths of walks from the start to each place; the steps have numbers only."""
    found = [None] * size
    found[start] = 0
    shorter = True
    # A shortest walk needs no place twice, so this ends after as many rounds as there are places.
    while shorter:
        shorter = False
        for before, after, length in steps:
            if found[before] is not None:
                reached = found[before] + length
                if found[after] is None or reached < found[after]:
                    found[after] = reached
                    shorter = True
    return found


def longest(size, steps, first):
    """Return the list of the greatest lengths of walks to each place; steps may be ENDLESS.

    `first` has, for each place, the length with which a walk may begin there (of any sign), or None.
    """
    found = list(first)
    groups = groups_of(size, steps)
    leaving, growing = _sorted_steps(size, steps, groups)
    for at, group in enumerate(groups):
        reached = None
        for place in group:
            reached = greater(reached, found[place])
        if reached is not None and growing[at]:
            reached = ENDLESS
        # If going round in a group adds nothing, all of its steps have length 0: all of its places are as far.
        for place in group:
            found[place] = reached
        for after, length in leaving[at]:
            found[after] = greater(found[after], total(reached, length))
    return found


def tight(steps, found):
    """Return the rows (index, before, after) of those steps along which the found lengths of places can come."""
    rows = []
    for at, (before, after, length) in enumerate(steps):
        if found[before] is not None and total(found[before], length) == found[after]:
            rows.append((at, before, after))
    return rows


def total(one, other):
    """Return the length of two walks, one behind the other."""
    if one is None or other is None:
        return None
    if one == ENDLESS or other == ENDLESS:
        return ENDLESS
    return one + other


def greater(one, other):
    """Return the greater of two lengths."""
    if one is None or other == ENDLESS:
        return other
    return one if other is None or one == ENDLESS or one >= other else other


def _sorted_steps(size, steps, groups):
    """Return, for each group, the list of (after, length) of the steps that leave it, and whether walks grow in it.

    A step within a group is part of a ring: unless its length is 0, walks grow with each time around.
    """
    number = [0] * size
    for at, group in enumerate(groups):
        for place in group:
            number[place] = at
    leaving = [[] for _ in groups]
    growing = [False] * len(groups)
    for before, after, length in steps:
        if number[before] != number[after]:
            leaving[number[before]].append((after, length))
        elif length != 0:
            growing[number[before]] = True
    return leaving, growing
