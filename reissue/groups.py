"""Groups of places: those that lead to one another along steps (tuples of the places before and after, and more)."""


def groups_of(size, steps):
    """Return the list of the groups of the places 0 to size - 1, each group before all others that it leads to."""
    onward = [[] for _ in range(size)]
    back = [[] for _ in range(size)]
    for before, after, _ in steps:
        onward[before].append(after)
        back[after].append(before)
    taken = [False] * size
    groups = []
    # Of the places that are left, the one that was finished last lies in a group to which no other group of them leads:
    # a place that leads to it is in its group, or was taken before.
    for place in reversed(_finished(onward)):
        if not taken[place]:
            groups.append(_take(back, place, taken))
    return groups


def _finished(onward):
    """Return the places in the order in which a search that goes deep first is through with what they lead to."""
    order = []
    seen = [False] * len(onward)
    for start in range(len(onward)):
        waiting = [(start, False)]
        while waiting:
            place, finished = waiting.pop()
            if finished:
                order.append(place)
            elif not seen[place]:
                seen[place] = True
                waiting.append((place, True))
                waiting.extend([(after, False) for after in onward[place] if not seen[after]])
    return order


def _take(back, start, taken):
    """Return the list of the places that lead to the start and are not taken, and mark them as taken."""
    found = []
    waiting = [start]
    while waiting:
        place = waiting.pop()
        if not taken[place]:
            taken[place] = True
            found.append(place)
            waiting.extend(back[place])
    return found
