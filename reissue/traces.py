"""Traces: what shows that a wait is not safe."""

from reissue.behaviors import Behavior
from reissue.checks import is_whole
from reissue.latest import latest_way
from reissue.lengths import ENDLESS, tight
from reissue.times import late_starts, least_steps, least_times, steps_back, times_to_release
from reissue.waits import check_case, hearings, openings, worst_case
from reissue.walks import delay_sum, fewest_steps, first_link, led_to, walk_sum


def trace(earlier, later, wait):
    """Return a tuple (start, late, early, opening, port) that shows that the wait is not safe, or None if it is."""
    check_case(earlier, later, wait)
    worst = worst_case(hearings(earlier), openings(later))
    if worst is None or worst[0] != ENDLESS and worst[0] <= wait:
        return None
    _, event, opener, port = worst
    starts = late_starts(earlier, least_times(earlier), times_to_release(earlier))
    way = latest_way(earlier, starts, event)
    start, early = _beginning(earlier, starts, way)
    opening = _walk_from_issue(later, opener)
    late = _slowest_walk(earlier.links, way, walk_sum(early) + walk_sum(opening) + wait + 1)
    return start, late, early, opening, port


def check_trace(earlier, later, wait, claim):
    """Return whether the value is a trace that shows that the wait is not safe."""
    check_case(earlier, later, wait)
    if not isinstance(claim, tuple) or len(claim) != 5:
        return False
    start, late, early, opening, port = claim
    fork = led_to(earlier.links, Behavior.ISSUE, start)
    if led_to(earlier.links, fork, early) != Behavior.RELEASE:
        return False
    event = led_to(earlier.links, fork, late)
    opener = led_to(later.links, Behavior.ISSUE, opening)
    # True is no port, although it equals 1.
    if not is_whole(port) or (event, port) not in earlier.heard or (opener, port) not in later.opens:
        return False
    return _may_part(earlier.links, late, early) and walk_sum(late) > walk_sum(early) + walk_sum(opening) + wait


def _may_part(links, late, early):
    """Return whether both walks can begin at one occurrence."""
    one, other = first_link(late), first_link(early)
    return one is None or one != other or links[one][4]


def _beginning(behavior, starts, way):
    """Return the walk to where such a way begins, and the one from there to the release."""
    head, growing, _ = way
    first = head[0] if head else growing[0]
    if first is None:
        return _walk_from_issue(behavior, Behavior.RELEASE), []
    cause, effect, _, _, _ = behavior.links[first]
    return _walk_from_issue(behavior, cause), _walk_to_release(behavior, starts[effect][2])


def _slowest_walk(links, way, needed):
    """Return the walk along such a way with the greatest delays, its sum at least the needed one if it can grow."""
    head, growing, tail = way
    return _once(_slowest(links, head)) + _grown(links, growing, needed) + _once(_slowest(links, tail))


def _grown(links, growing, needed):
    """Return the walk, along links that can take any time, whose sum is at least the needed one; empty without such."""
    if not growing:
        return []
    _, _, least, most, _ = links[growing[0]]
    if most is None:
        return _once([(growing[0], least + needed)])
    steps = _slowest(links, growing)
    return [(steps, -(-needed // delay_sum(steps)))]


def _slowest(links, way):
    """Return the steps along links with their greatest delays, or the least ones where there is no greatest."""
    steps = []
    for link in way:
        if link is not None:
            _, _, least, most, _ = links[link]
            steps.append((link, least if most is None else most))
    return steps


def _walk_from_issue(behavior, event):
    """Return the walk with the least sum from the issue to an event that can occur."""
    rows = tight(least_steps(behavior), least_times(behavior))
    return _quickest(behavior.links, fewest_steps(behavior.events, rows, Behavior.ISSUE)[event])


def _walk_to_release(behavior, link):
    """Return the walk with the least sum to a release that begins with the link."""
    rows = tight(steps_back(least_steps(behavior)), times_to_release(behavior))
    back = fewest_steps(behavior.events, rows, Behavior.RELEASE)[behavior.links[link][1]]
    return _quickest(behavior.links, [link, *back[::-1]])


def _quickest(links, way):
    """Return the walk along links with their least delays."""
    return _once([(link, links[link][2]) for link in way])


def _once(steps):
    """Return the walk that goes through the steps once."""
    return [(steps, 1)] if steps else []
