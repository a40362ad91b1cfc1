"""What the document says of traces and certificates, word by word, for small claims; and the runs that traces show."""


def is_trace(earlier, later, wait, claim):
    """Return whether the claim is a trace, all its walks written out step by step."""
    if claim.__class__ is not tuple or len(claim) != 5:
        return False
    start, late, early, opening, port = claim
    if port.__class__ is not int or any(_steps(walk) is None for walk in claim[:4]):
        return False
    start, late, early, opening = [_steps(walk) for walk in claim[:4]]
    fork = _end(earlier.links, 0, start)
    if fork is None or _end(earlier.links, fork, early) != 1:
        return False
    if (_end(earlier.links, fork, late), port) not in earlier.heard:
        return False
    if (_end(later.links, 0, opening), port) not in later.opens:
        return False
    if late and early and late[0][0] == early[0][0] and not earlier.links[late[0][0]][4]:
        return False
    sums = [sum(delay for _, delay in steps) for steps in (late, early, opening)]
    return sums[0] > sums[1] + sums[2] + wait


def runs_of(claim):
    """Return what happens in the earlier and in the later run that a trace shows, as rows (event, cause, link, time).

    The rows lack their events (None): the links tell them. The third item is the index of what is heard, the fourth
    one that of the release.
    """
    start, late, early, opening = [_steps(walk) for walk in claim[:4]]
    run = [(0, None, None, 0)]
    fork = _walk(run, 0, start)
    heard = _walk(run, fork, late)
    release = _walk(run, fork, early)
    after = [(0, None, None, 0)]
    _walk(after, 0, opening)
    return run, after, heard, release


def with_events(behavior, run):
    """Return the run with the event of each row that a link has brought about."""
    return [run[0], *[(behavior.links[link][1], cause, link, time) for _, cause, link, time in run[1:]]]


def is_certificate(earlier, later, wait, claim):
    """Return whether the claim is a certificate: no condition that the document lists is broken."""
    if claim.__class__ is not tuple or len(claim) != 4 or any(items.__class__ is not list for items in claim):
        return False
    seen, back, harm, opening = claim
    if [len(items) for items in claim] != [earlier.events] * 3 + [later.events]:
        return False
    numbers = [item for item in back + harm + opening if item is not None]
    if any(item.__class__ is not bool for item in seen) or "endless" in back + opening:
        return False
    if any(item.__class__ is not int and not (item.__class__ is str and item == "endless") for item in numbers):
        return False
    return not list(_broken(earlier, later, wait, claim))


def _broken(earlier, later, wait, claim):
    """Yield the name of each condition that a claim of the right form breaks, as often as it does."""
    seen, back, harm, opening = claim
    if not seen[0]:
        yield "seen"
    if opening[0] is None or opening[0] > 0:
        yield "opening"
    if back[1] is None or back[1] > 0:
        yield "back"
    for u, v, least, _, _ in later.links:
        if opening[u] is not None and (opening[v] is None or opening[v] > opening[u] + least):
            yield "opening"
    for u, v, least, most, _ in earlier.links:
        if seen[u] and not seen[v]:
            yield "seen"
        if seen[u] and back[v] is not None and (back[u] is None or back[u] > least + back[v]):
            yield "back"
        if seen[u] and harm[v] is not None and harm[u] != "endless":
            if most is None or harm[v] == "endless" or harm[u] is None or harm[u] < most + harm[v]:
                yield "harm"
    for e, port in earlier.heard:
        for o, other in later.opens:
            if seen[e] and port == other and opening[o] is not None and harm[e] != "endless":
                if harm[e] is None or harm[e] < -opening[o]:
                    yield "heard"
    if seen[1] and harm[1] is not None and (harm[1] == "endless" or harm[1] > wait):
        yield "release"
    for one, (a, u, _, most, many) in enumerate(earlier.links):
        for other, (b, v, least, _, _) in enumerate(earlier.links):
            if a == b and seen[a] and harm[u] is not None and back[v] is not None and (one != other or many):
                if most is None or harm[u] == "endless" or most + harm[u] - least - back[v] > wait:
                    yield "fork"


def _steps(walk):
    """Return all steps of a walk, those that are gone through again written out again; None if it has another form."""
    found = []
    if walk.__class__ is not list:
        return None
    for block in walk:
        if block.__class__ is not tuple or len(block) != 2 or block[0].__class__ is not list or len(block[0]) == 0:
            return None
        if block[1].__class__ is not int or block[1] < 1:
            return None
        for step in block[0]:
            if step.__class__ is not tuple or len(step) != 2 or any(part.__class__ is not int for part in step):
                return None
        found += block[0] * block[1]
    return found


def _end(links, place, steps):
    for link, delay in steps:
        if link not in range(len(links)):
            return None
        cause, effect, least, most, _ = links[link]
        if cause != place or delay < least or most is not None and delay > most:
            return None
        place = effect
    return place


def _walk(run, at, steps):
    for link, delay in steps:
        run.append((None, at, link, run[at][3] + delay))
        at = len(run) - 1
    return at
