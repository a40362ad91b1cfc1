"""The links along which an event comes the latest after a release."""

from reissue.lengths import ENDLESS, tight
from reissue.times import greatest_steps, late_times
from reissue.walks import fewest_steps


def latest_way(behavior, starts, event):
    """Return three lists of links that lead, one behind another, to an event the latest after a release.

    `starts` has how such walks may begin. The first item is None if they begin at the release itself. If the event
    comes endlessly late, the second list can take any time: it is one link without an upper end, or a ring with a
    delay. Otherwise the last two lists are empty.
    """
    late = late_times(behavior, starts)
    if late[event] == ENDLESS:
        return _endless_way(behavior, starts, event)
    first = [start if start is not None and start[0] == late[at] else None for at, start in enumerate(starts)]
    rows = tight(greatest_steps(behavior), late) + _start_rows(first)
    return fewest_steps(behavior.events + 1, rows, behavior.events)[event], [], []


def _start_rows(starts):
    """Return the rows (link, before, after) of the ways to begin, for which a place behind all events stands."""
    return [(start[1], len(starts), event) for event, start in enumerate(starts) if start is not None]


def _endless_way(behavior, starts, event):
    """Return the three lists of links to an event that comes endlessly late."""
    links = behavior.links
    size = behavior.events + 1
    rows = [(at, link[0], link[1]) for at, link in enumerate(links)] + _start_rows(starts)
    ahead = fewest_steps(size, rows, behavior.events)
    for link, before, after in rows:
        # A link that takes no time makes no walk longer, and neither does beginning at the release.
        if ahead[before] is not None and link is not None and links[link][3] != 0:
            onward = fewest_steps(size, rows, after)
            if onward[event] is not None and links[link][3] is None:
                return ahead[before], [link], onward[event]
            if onward[event] is not None and onward[before] is not None:
                return ahead[before], [link, *onward[before]], [link, *onward[event]]
    # Without such a link on the way, the event does not come endlessly late.
    return [], [], []
