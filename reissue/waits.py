"""How long an identifier has to rest before it is handed out again."""

from reissue.behaviors import check_behavior
from reissue.checks import check_at_least
from reissue.lengths import ENDLESS, greater, total
from reissue.times import NEVER, first_openings, lateness, least_times


def excess(earlier, later):
    """Return the greatest lateness of what is heard less the least time of what opens its port, ENDLESS, or NEVER."""
    check_behavior(earlier)
    check_behavior(later)
    worst = worst_case(earlier, later)
    return NEVER if worst is None else worst[0]


def least_wait(earlier, later):
    """Return the least wait that is safe, or ENDLESS if none is."""
    found = excess(earlier, later)
    if found == ENDLESS:
        return ENDLESS
    return 0 if found == NEVER else max(0, found)


def worst_case(earlier, later):
    """Return a tuple (excess, event, opener, port) of what is heard the latest after its port is opened, or None."""
    late = lateness(earlier)
    openings = first_openings(later.opens, least_times(later))
    worst = None
    for event, port in earlier.heard:
        if late[event] != NEVER and port in openings:
            time, opener = openings[port]
            found = total(late[event], -time)
            if worst is None or greater(worst[0], found) != worst[0]:
                worst = (found, event, opener, port)
    return worst


def check_case(earlier, later, wait):
    """Raise the error of the first argument that is no behavior, or no wait."""
    check_behavior(earlier)
    check_behavior(later)
    check_at_least(wait, 0)
