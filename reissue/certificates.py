"""Certificates: what shows that a wait is safe."""

from reissue.behaviors import Behavior
from reissue.checks import is_whole
from reissue.lengths import ENDLESS, greater, longest, total
from reissue.times import first_openings, greatest_steps, least_steps, least_times, steps_back, times_to_release
from reissue.waits import check_case


def certificate(earlier, later, wait):
    """Return a tuple (seen, back, harm, opening) that shows that the wait is safe, or None if it is not."""
    check_case(earlier, later, wait)
    opening = least_times(later)
    seen = [time is not None for time in least_times(earlier)]
    # These are the tightest bounds: if they do not show it, nothing does.
    found = (seen, times_to_release(earlier), _greatest_harm(earlier, later, opening), opening)
    return found if _shows(earlier, later, wait, found) else None


def check_certificate(earlier, later, wait, claim):
    """Return whether the value is a certificate that shows that the wait is safe."""
    check_case(earlier, later, wait)
    return _has_form(earlier, later, claim) and _shows(earlier, later, wait, claim)


def _greatest_harm(earlier, later, opening):
    """Return, for each event, how much later than an opening something can be heard that comes of it, or None."""
    ports = first_openings(later.opens, opening)
    harm = [None] * earlier.events
    for event, port in earlier.heard:
        if port in ports:
            harm[event] = greater(harm[event], -ports[port][0])
    return longest(earlier.events, steps_back(greatest_steps(earlier)), harm)


def _has_form(earlier, later, claim):
    """Return whether the value is a tuple of four lists of the lengths and the kinds of items of a certificate."""
    if not isinstance(claim, tuple) or len(claim) != 4:
        return False
    sizes = [earlier.events, earlier.events, earlier.events, later.events]
    if not all([isinstance(items, list) and len(items) == size for items, size in zip(claim, sizes)]):
        return False
    seen, back, harm, opening = claim
    return (
        all([isinstance(item, bool) for item in seen])
        and all([item is None or is_whole(item) for item in back + opening])
        and all([item is None or is_whole(item) or item == ENDLESS for item in harm])
    )


def _shows(earlier, later, wait, claim):
    """Return whether such lists show that the wait is safe."""
    seen, back, harm, opening = claim
    return (
        _are_seen(earlier, seen)
        and _are_openings(later, opening)
        and _leads_back(earlier, seen, back)
        and _is_heard(earlier, later, seen, harm, opening)
        and _does_harm(earlier, seen, harm)
        and (not seen[Behavior.RELEASE] or _is_within(harm[Behavior.RELEASE], 0, wait))
        and all([_parts_in_time(earlier.links, at, claim, wait) for at in range(len(earlier.links))])
    )


def _are_seen(behavior, seen):
    """Return whether all events that can occur are seen."""
    return seen[Behavior.ISSUE] and all([seen[effect] or not seen[cause] for cause, effect, _, _, _ in behavior.links])


def _are_openings(behavior, opening):
    """Return whether no event can occur earlier than its opening."""
    return _is_at_most(opening[Behavior.ISSUE], 0) and all([
        opening[cause] is None or _is_at_most(opening[effect], opening[cause] + least)
        for cause, effect, least in least_steps(behavior)
    ])


def _leads_back(behavior, seen, back):
    """Return whether no release can come earlier after an event that is seen than `back` says."""
    return _is_at_most(back[Behavior.RELEASE], 0) and all([
        not seen[cause] or back[effect] is None or _is_at_most(back[cause], least + back[effect])
        for cause, effect, least in least_steps(behavior)
    ])


def _is_heard(earlier, later, seen, harm, opening):
    """Return whether each event that is seen has the harm that it does where it is heard itself."""
    ports = first_openings(later.opens, opening)
    return all([
        not seen[event] or port not in ports or _is_enough(harm[event], -ports[port][0])
        for event, port in earlier.heard
    ])


def _does_harm(behavior, seen, harm):
    """Return whether each event that is seen has the harm that is done by what comes of it."""
    return all([
        not seen[cause] or harm[effect] is None or _is_enough(harm[cause], total(greatest, harm[effect]))
        for cause, effect, greatest in greatest_steps(behavior)
    ])


def _parts_in_time(links, at, claim, wait):
    """Return whether what begins with the link does no harm after the wait, wherever a release comes beside it."""
    seen, back, harm, _ = claim
    cause, effect, _, most, many = links[at]
    if not seen[cause] or harm[effect] is None:
        return True
    early = [
        least + back[after] for other, (before, after, least, _, _) in enumerate(links)
        if before == cause and back[after] is not None and (other != at or many)
    ]
    return all([most is not None and _is_within(harm[effect], most - time, wait) for time in early])


def _is_at_most(item, number):
    """Return whether the item is a number, and at most the given one."""
    return item is not None and item <= number


def _is_enough(item, needed):
    """Return whether the item is endless, or a number that is not below the needed one."""
    return item == ENDLESS or item is not None and needed != ENDLESS and item >= needed


def _is_within(item, more, wait):
    """Return whether the item is None, or a number and with the other one at most the wait."""
    return item is None or item != ENDLESS and item + more <= wait
