"""Times reckoned another way than the program does, for small behaviors."""

FAR = 10 ** 6


def runs(behavior, size):
    """Yield all runs of at most so many occurrences whose delays are least or greatest (FAR, if there is no most).

    Of runs that differ only in the order of their occurrences, one is enough: causes and links ascend.
    """
    found = [[(0, None, None, 0)]]
    while found:
        run = found.pop()
        yield run
        if len(run) < size:
            found.extend(_longer(behavior.links, run))


def _longer(links, run):
    low = run[-1][1:3] if len(run) > 1 else (0, 0)
    for cause in range(low[0], len(run)):
        for link, (before, effect, least, most, many) in enumerate(links):
            taken = any(row[1:3] == (cause, link) for row in run[1:])
            if before == run[cause][0] and (cause, link) >= low and (many or not taken):
                for delay in sorted({least, least + FAR if most is None else most}):
                    yield [*run, (effect, cause, link, run[cause][3] + delay)]


def times_of_runs(behavior, size):
    """Return what earliest and lateness are if only those runs are looked at; None where there is nothing."""
    first, last = [None] * behavior.events, [None] * behavior.events
    for run in runs(behavior, size):
        releases = [row[3] for row in run if row[0] == 1]
        for event, _, _, time in run:
            first[event] = time if first[event] is None else min(first[event], time)
            if releases:
                late = time - min(releases)
                last[event] = late if last[event] is None else max(last[event], late)
    return first, last


def lateness_of_walks(behavior):
    """Return the lateness as point [22] has it, by all walks of up to 2 and up to 4 times as many steps as events."""
    short, long = (_lateness_within(behavior, turns * behavior.events) for turns in (2, 4))
    return [
        "never" if one is None else "endless" if one != other or one >= FAR // 2 else one
        for one, other in zip(short, long)
    ]


def latest_of_walks(behavior):
    """Return the greatest time of each event, by all walks of up to 2 and up to 4 times as many steps as events."""
    steps = [(c, e, least + FAR if most is None else most) for c, e, least, most, _ in behavior.links]
    short, long = (_within(0, turns * behavior.events, steps, max) for turns in (2, 4))
    return [
        "never" if event not in short else "endless" if short[event] != long[event] or short[event] >= FAR // 2
        else short[event] for event in range(behavior.events)
    ]


def _lateness_within(behavior, steps):
    links = behavior.links
    lows = [[(c, e, least) for c, e, least, _, _ in links], min]
    highs = [[(c, e, least + FAR if most is None else most) for c, e, least, most, _ in links], max]
    low = [_within(start, steps, *lows) for start in range(behavior.events)]
    high = [_within(start, steps, *highs) for start in range(behavior.events)]
    return [_greatest(links, event, low, high, highs[0]) for event in range(behavior.events)]


def _greatest(links, event, low, high, steps):
    if event not in low[0] or 1 not in low[0]:
        return None
    found = [high[1][event]] if event in high[1] else []
    found += [-low[event][1]] if 1 in low[event] else []
    for one, (a, u, greatest) in enumerate(steps):
        for other, (b, v, least, _, many) in enumerate(links):
            apart = a == b and a in low[0] and (one != other or many)
            if apart and event in high[u] and 1 in low[v]:
                found.append(greatest + high[u][event] - least - low[v][1])
    return max(found)


def _within(start, steps, links, choose):
    found, last = {start: 0}, {start: 0}
    for _ in range(steps):
        reached = {}
        for cause, effect, delay in links:
            if cause in last:
                reached[effect] = choose(last[cause] + delay, reached.get(effect, last[cause] + delay))
        for event, time in reached.items():
            found[event] = choose(time, found.get(event, time))
        last = reached
    return found
