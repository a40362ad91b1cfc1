"""When the events of a behavior occur: how early, and how late after the release."""

from reissue.behaviors import Behavior, check_behavior
from reissue.lengths import ENDLESS, greater, longest, shortest

NEVER = "never"


def earliest(behavior):
    """Return the list of the least times that the events can have in a run."""
    check_behavior(behavior)
    return [NEVER if time is None else time for time in least_times(behavior)]


def lateness(behavior):
    """Return the list of the greatest times after the first release that the events can have in a run."""
    check_behavior(behavior)
    return [NEVER if time is None else time for time in times_after_release(behavior)]


def least_times(behavior):
    """Return the list of the least times from the issue to the events, None for those that no run has."""
    return shortest(behavior.events, least_steps(behavior), Behavior.ISSUE)


def greatest_times(behavior):
    """Return the list of the greatest times from the issue to the events, None for those that no run has."""
    return longest(behavior.events, greatest_steps(behavior), [0] + [None] * (behavior.events - 1))


def times_after_release(behavior):
    """Return the list of the greatest times from the first release to the events, None where no run has both."""
    seen = least_times(behavior)
    if seen[Behavior.RELEASE] is None:
        return [None] * behavior.events
    back = times_to_release(behavior)
    late = late_times(behavior, late_starts(behavior, seen, back))
    # An event may also come before the release, on one way with it.
    before = [None if time is None else -time for time in back]
    return [None if seen[at] is None else greater(late[at], before[at]) for at in range(behavior.events)]


def times_to_release(behavior):
    """Return the list of the least times from the events to a release, None where none can follow."""
    return shortest(behavior.events, steps_back(least_steps(behavior)), Behavior.RELEASE)


def least_steps(behavior):
    """Return the steps of the links with their least delays."""
    return [(cause, effect, least) for cause, effect, least, _, _ in behavior.links]


def greatest_steps(behavior):
    """Return the steps of the links with their greatest delays."""
    return [(cause, effect, ENDLESS if most is None else most) for cause, effect, _, most, _ in behavior.links]


def steps_back(steps):
    """Return the steps in the opposite direction."""
    return [(after, before, length) for before, after, length in steps]


def late_starts(behavior, seen, back):
    """Return, for each event, how a walk may begin that comes to it the latest after a release, or None.

    It is a tuple (late, link, beside): the link comes to the event so much later than the least walk comes to a
    release that begins with the link `beside`. The walk may also begin at a release: it is (0, None, None) then.
    """
    ways = _ways_to_release(behavior, back)
    starts = [None] * behavior.events
    starts[Behavior.RELEASE] = (0, None, None)
    for at, (cause, effect, _, most, many) in enumerate(behavior.links):
        way = _way_beside(ways[cause], at, many)
        if seen[cause] is not None and way is not None:
            late = ENDLESS if most is None else most - way[0]
            if starts[effect] is None or greater(starts[effect][0], late) != starts[effect][0]:
                starts[effect] = (late, at, way[1])
    return starts


def late_times(behavior, starts):
    """Return the list of the greatest times after a release of the walks that begin so."""
    first = [None if start is None else start[0] for start in starts]
    return longest(behavior.events, greatest_steps(behavior), first)


def first_openings(opens, times):
    """Return a dictionary with a tuple (time, event) for each port that is opened: when, and by what, it is first."""
    found = {}
    for event, port in opens:
        time = times[event]
        if time is not None and (port not in found or time < found[port][0]):
            found[port] = (time, event)
    return found


def last_hearings(heard, times):
    """Return a dictionary with a tuple (time, event) for each port that is heard: when, and by what, it is last."""
    found = {}
    for event, port in heard:
        time = times[event]
        if time is not None and (port not in found or greater(found[port][0], time) != found[port][0]):
            found[port] = (time, event)
    return found


def _ways_to_release(behavior, back):
    """Return, for each event, the ascending list of (time, link): the least times to a release by each first link."""
    ways = [[] for _ in back]
    for at, (cause, effect, least, _, _) in enumerate(behavior.links):
        if back[effect] is not None:
            ways[cause].append((least + back[effect], at))
    # The links differ, so a set loses none of them.
    return [sorted(set(rows)) for rows in ways]


def _way_beside(ways, link, many):
    """Return the first one of the ways that can be taken where the link has been taken already, or None."""
    for way in ways:
        if many or way[1] != link:
            return way
    return None
