"""How long an identifier has to rest before it is handed out again."""

from reissue.behaviors import check_behavior
from reissue.checks import check_at_least
from reissue.lengths import ENDLESS, greater, total
from reissue.times import NEVER, first_openings, last_hearings, least_times, times_after_release


def excess(earlier, later):
    """Return the greatest lateness of what is heard less the least time of what opens its port, ENDLESS, or NEVER."""
    check_behavior(earlier)
    check_behavior(later)
    worst = worst_case(hearings(earlier), openings(later))
    return NEVER if worst is None else worst[0]


def least_wait(earlier, later):
    """Return the least wait that is safe, or ENDLESS if none is."""
    check_behavior(earlier)
    check_behavior(later)
    return wait_against(hearings(earlier), openings(later))


def waits_between(behaviors):
    """Return, for each of the behaviors as the earlier one, the list of the least waits with each as the later one."""
    opened = [openings(behavior) for behavior in behaviors]
    rows = []
    for behavior in behaviors:
        heard = hearings(behavior)
        rows.append([wait_against(heard, other) for other in opened])
    return rows


def hearings(behavior):
    """Return a dictionary with a tuple (time, event) for each port: how late after a release it can be heard."""
    return last_hearings(behavior.heard, times_after_release(behavior))


def openings(behavior):
    """Return a dictionary with a tuple (time, event) for each port: how early after the issue it can be opened."""
    return first_openings(behavior.opens, least_times(behavior))


def wait_against(heard, opened):
    """Return the least wait, from when the times of what is heard count to the issue, that is safe, or ENDLESS."""
    worst = worst_case(heard, opened)
    if worst is None:
        return 0
    return ENDLESS if worst[0] == ENDLESS else max(0, worst[0])


def worst_case(heard, opened):
    """Return a tuple (excess, event, opener, port) of what is heard the latest after its port is opened, or None."""
    worst = None
    for port in heard:
        if port in opened:
            late, event = heard[port]
            time, opener = opened[port]
            found = total(late, -time)
            if worst is None or greater(worst[0], found) != worst[0]:
                worst = (found, event, opener, port)
    return worst


def check_case(earlier, later, wait):
    """Raise the error of the first argument that is no behavior, or no wait."""
    check_behavior(earlier)
    check_behavior(later)
    check_at_least(wait, 0)
