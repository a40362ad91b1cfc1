"""When the events of a behavior occur: how early, and how late after the release."""

from reissue.behaviors import Behavior, check_behavior
from reissue.lengths import ENDLESS, greater, lesser, longest, shortest, total

NEVER = "never"


def earliest(behavior):
    """Return the list of the least times that the events can have in a run."""
    check_behavior(behavior)
    return [NEVER if time is None else time for time in _least_times(behavior)]


def lateness(behavior):
    """Return the list of the greatest times after the first release that the events can have in a run."""
    check_behavior(behavior)
    seen = _least_times(behavior)
    if seen[Behavior.RELEASE] is None:
        return [NEVER] * behavior.events
    back = _times_to_release(behavior)
    forks = _forks(behavior, seen, back)
    walks = _greatest_times(behavior)
    return [NEVER if seen[event] is None else _latest(event, back, forks, walks) for event in range(behavior.events)]


def _least_times(behavior):
    """Return the list of the least lengths from the issue to the events."""
    steps = [(cause, effect, least) for cause, effect, least, _, _ in behavior.links]
    return shortest(behavior.events, steps, Behavior.ISSUE)


def _times_to_release(behavior):
    """Return the list of the least lengths from the events to a release."""
    steps = [(effect, cause, least) for cause, effect, least, _, _ in behavior.links]
    return shortest(behavior.events, steps, Behavior.RELEASE)


def _greatest_times(behavior):
    """Return, for each event, the list of the greatest lengths from it to the events."""
    steps = [(cause, effect, ENDLESS if most is None else most) for cause, effect, _, most, _ in behavior.links]
    return [longest(behavior.events, steps, event) for event in range(behavior.events)]


def _forks(behavior, seen, back):
    """Return a tuple (effect, most, early) for each link of an event that occurs beside which a release can come.

    `early` is the least time from the event to the release, along another first link or this one once more.
    """
    links = behavior.links
    forks = []
    for at, (cause, effect, _, most, _) in enumerate(links):
        early = _least_beside(links, at, back)
        if seen[cause] is not None and early is not None:
            forks.append((effect, ENDLESS if most is None else most, early))
    return forks


def _least_beside(links, at, back):
    """Return the least length from the link's cause to a release, if this link has been taken already."""
    found = None
    for other, (cause, effect, least, _, many) in enumerate(links):
        if cause == links[at][0] and (other != at or many):
            found = lesser(found, total(least, back[effect]))
    return found


def _latest(event, back, forks, walks):
    """Return the greatest lateness of an event that occurs, if a release can occur."""
    found = walks[Behavior.RELEASE][event]
    # The event may also come before the release, on one way with it, or on a way of its own from a common cause.
    if back[event] is not None:
        found = greater(found, -back[event])
    for effect, most, early in forks:
        found = greater(found, total(total(most, walks[effect][event]), -early))
    return found
