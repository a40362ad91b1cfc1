"""Walks along links: lists of blocks (steps, often), with steps (link, delay) that are gone through so often."""

from reissue.checks import is_at_least, is_index


def led_to(links, start, walk):
    """Return the event to which the value leads from the start, as a walk along the links; None if it is no such.

    Nothing leads anywhere from a start that is None.
    """
    if not isinstance(walk, list):
        return None
    place = start
    for block in walk:
        place = _behind_block(links, place, block)
        if place is None:
            return None
    return place


def walk_sum(walk):
    """Return the sum of the delays of a walk."""
    return sum([often * delay_sum(steps) for steps, often in walk])


def delay_sum(steps):
    """Return the sum of the delays of steps."""
    return sum([delay for _, delay in steps])


def first_link(walk):
    """Return the index of the first link of a walk, None if it is empty."""
    return walk[0][0][0][0] if walk else None


def fewest_steps(size, rows, start):
    """Return, for each place, the list of the marks of the fewest rows that lead to it from the start, or None.

    A row is a tuple (mark, before, after) of any mark and two of the places 0 to size - 1.
    """
    leaving = [[] for _ in range(size)]
    for mark, before, after in rows:
        leaving[before].append((mark, after))
    found = [None] * size
    found[start] = []
    reached = [start]
    while reached:
        further = []
        for place in reached:
            for mark, after in leaving[place]:
                if found[after] is None:
                    found[after] = [*found[place], mark]
                    further.append(after)
        reached = further
    return found


def _behind_block(links, start, block):
    """Return the event to which the value leads from the start, as a block of a walk; None if it is no such."""
    if not isinstance(block, tuple) or len(block) != 2:
        return None
    steps, often = block
    if not isinstance(steps, list) or not steps or not is_at_least(often, 1):
        return None
    place = start
    for step in steps:
        place = _behind_step(links, place, step)
        if place is None:
            return None
    # What is gone through again begins anew where it has led to.
    return place if often == 1 or place == start else None


def _behind_step(links, start, step):
    """Return the event to which the value leads from the start, as a step of a walk; None if it is no such."""
    if not isinstance(step, tuple) or len(step) != 2 or not is_index(step[0], len(links)):
        return None
    cause, effect, least, most, _ = links[step[0]]
    if cause != start or not is_at_least(step[1], least):
        return None
    return effect if most is None or step[1] <= most else None
