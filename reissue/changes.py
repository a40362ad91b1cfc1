"""Changes: what comes after a crash, how much slower a link may become, and in what two behaviors differ."""

from reissue.behaviors import Behavior, check_behavior
from reissue.checks import check_index
from reissue.errors import InvalidNumber
from reissue.lengths import ENDLESS
from reissue.times import greatest_times, last_hearings
from reissue.waits import check_case, hearings, least_wait, openings, wait_against

EARLIER = "earlier"
LATER = "later"


def quiet(earlier, later):
    """Return the least time from a crash to the first issue that is safe, ENDLESS if none is."""
    check_behavior(earlier)
    check_behavior(later)
    # A run that began before the crash is through earlier than one that began at it.
    return wait_against(last_hearings(earlier.heard, greatest_times(earlier)), openings(later))


def slack(earlier, later, wait, link):
    """Return by how much the most of a link may be made greater so that the wait stays safe, or ENDLESS."""
    check_case(earlier, later, wait)
    if not _is_safe(hearings(earlier), openings(later), wait):
        raise InvalidNumber(wait)
    check_index(link, len(earlier.links))
    return _slack(earlier, later, wait, link)


def tight_links(earlier, later):
    """Return the ascending list of the links whose slack for the least wait is 0, None if that is ENDLESS."""
    wait = least_wait(earlier, later)
    if wait == ENDLESS:
        return None
    return [link for link in range(len(earlier.links)) if _slack(earlier, later, wait, link) == 0]


def apart(one, other):
    """Return a tuple (third, word) of a behavior with which two have other least waits, None if there is none."""
    check_behavior(one)
    check_behavior(other)
    port = _differing_port(_harms(one), _harms(other))
    if port is not None:
        return Behavior(2, [], [], [(Behavior.ISSUE, port)]), EARLIER
    first, second = _first_times(one), _first_times(other)
    port = _differing_port(first, second)
    if port is None:
        return None
    # Later than both open the port: so each of them has a wait that tells when, and is 0 only if it never does.
    return _heard_until(port, first.get(port, 0) + second.get(port, 0) + 1), LATER


def check_apart(one, other, claim):
    """Return whether the value is a tuple (third, word) of a behavior with which the two have other least waits."""
    check_behavior(one)
    check_behavior(other)
    if not isinstance(claim, tuple) or len(claim) != 2 or not isinstance(claim[0], Behavior):
        return False
    third, word = claim
    if word == EARLIER:
        return least_wait(one, third) != least_wait(other, third)
    return word == LATER and least_wait(third, one) != least_wait(third, other)


def _slack(earlier, later, wait, link):
    """Return the slack of a link for a wait that is safe."""
    most = earlier.links[link][3]
    opened = openings(later)
    if most is None or _is_safe(hearings(_with_most(earlier, link, None)), opened, wait):
        return ENDLESS
    # The least delays on the way to the release and to the opening are all that can make up for a greater one, so this
    # much more is not safe.
    far = wait + 1 + _sum_of_least(earlier) + _sum_of_least(later)
    found = wait_against(hearings(_with_most(earlier, link, most + far)), opened)
    # A link in a ring is gone through again and again; any other one counts once.
    return 0 if found == ENDLESS else wait + far - found


def _is_safe(heard, opened, wait):
    """Return whether the wait is safe for what is heard so late and opened so early."""
    needed = wait_against(heard, opened)
    return needed != ENDLESS and needed <= wait


def _with_most(behavior, link, most):
    """Return the behavior with another greatest delay of the link."""
    links = behavior.links
    cause, effect, least, _, many = links[link]
    links[link] = (cause, effect, least, most, many)
    return Behavior(behavior.events, links, behavior.heard, behavior.opens)


def _sum_of_least(behavior):
    """Return the sum of the least delays of all links."""
    return sum([least for _, _, least, _, _ in behavior.links])


def _harms(behavior):
    """Return a dictionary of how late after a release each port can be heard, without those that need no wait."""
    times = {port: time for port, (time, _) in hearings(behavior).items()}
    return {port: time for port, time in times.items() if time == ENDLESS or time > 0}


def _first_times(behavior):
    """Return a dictionary of how early after the issue each port can be opened."""
    return {port: time for port, (time, _) in openings(behavior).items()}


def _differing_port(one, other):
    """Return the first port for which two dictionaries do not have the same, or None."""
    for port in [*one, *other]:
        if one.get(port) != other.get(port):
            return port
    return None


def _heard_until(port, late):
    """Return a behavior in which the port can be heard so late after the release, and not later."""
    return Behavior(3, [(0, 1, 0, 0, False), (1, 2, 0, late, False)], [(2, port)], [])
