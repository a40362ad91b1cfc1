"""Several kinds of holders that have an identifier one after another, in any order."""

from reissue.behaviors import Behavior
from reissue.checks import check_index, is_at_least, is_index
from reissue.errors import InvalidList
from reissue.lengths import ENDLESS, total
from reissue.times import least_times
from reissue.traces import check_trace, trace
from reissue.waits import waits_between

MOST_KINDS = 8


def are_safe(behaviors, waits):
    """Return whether nothing is ever misdelivered to a later holder, whatever kinds come in between."""
    _check_kinds(behaviors, waits)
    return _unsafe_pair(waits_between(behaviors), _least_rests(waits, _lifetimes(behaviors))) is None


def bad_row(behaviors, waits):
    """Return a tuple (kinds, trace) that shows that the waits are not safe, or None if they are."""
    _check_kinds(behaviors, waits)
    rests = _least_rests(waits, _lifetimes(behaviors))
    pair = _unsafe_pair(waits_between(behaviors), rests)
    if pair is None:
        return None
    time, kinds = rests[pair]
    return kinds, trace(behaviors[pair[0]], behaviors[pair[1]], time)


def check_bad_row(behaviors, waits, claim):
    """Return whether the value is a tuple (kinds, trace) that shows that the waits are not safe."""
    _check_kinds(behaviors, waits)
    if not isinstance(claim, tuple) or len(claim) != 2 or not _are_kinds(claim[0], len(behaviors)):
        return False
    kinds, shown = claim
    time = _rest_along(waits, _lifetimes(behaviors), kinds)
    return time is not None and check_trace(behaviors[kinds[0]], behaviors[kinds[-1]], time, shown)


def least_entry(behaviors, waits, i, j):
    """Return the least number in the place of waits[i][j] that makes the waits safe, ENDLESS if there is none."""
    _check_kinds(behaviors, waits)
    check_index(i, len(behaviors))
    check_index(j, len(behaviors))
    lifetimes = _lifetimes(behaviors)
    others = [list(row) for row in waits]
    others[i][j] = None
    rests = _least_rests(others, lifetimes)
    needs = waits_between(behaviors)
    if _unsafe_pair(needs, rests) is not None or needs[i][j] == ENDLESS:
        return ENDLESS
    least = 0
    for first, row in enumerate(needs):
        for last, needed in enumerate(row):
            # To go from i to j more than once never takes less time, so what lies around it once is enough.
            around = total(_time_around(rests, first, i, lifetimes[i]), _time_around(rests, j, last, lifetimes[j]))
            if around is not None and needed - around > least:
                least = needed - around
    return least


def _check_kinds(behaviors, waits):
    """Raise InvalidList for the first argument that is no list of behaviors, or no waits between them."""
    if not _are_behaviors(behaviors):
        raise InvalidList(behaviors)
    if not _are_waits(waits, len(behaviors)):
        raise InvalidList(waits)


def _are_behaviors(value):
    """Return whether the value is a list of behaviors, neither empty nor too long."""
    if not isinstance(value, list) or not 1 <= len(value) <= MOST_KINDS:
        return False
    return all([isinstance(behavior, Behavior) for behavior in value])


def _are_waits(value, size):
    """Return whether the value is a list of so many lists of so many waits."""
    if not isinstance(value, list) or len(value) != size:
        return False
    return all([
        isinstance(row, list) and len(row) == size and all([is_at_least(wait, 0) for wait in row]) for row in value
    ])


def _are_kinds(value, size):
    """Return whether the value is a list of 2 or more of so many kinds."""
    return isinstance(value, list) and len(value) >= 2 and all([is_index(kind, size) for kind in value])


def _lifetimes(behaviors):
    """Return the list of the least times from issue to release, None where no release comes."""
    return [least_times(behavior)[Behavior.RELEASE] for behavior in behaviors]


def _rest_along(waits, lifetimes, kinds):
    """Return the least time from the first one's release to the last one's issue, None if one between has none."""
    time = 0
    for before, after in zip(kinds, kinds[1:]):
        time += waits[before][after]
    for kind in kinds[1:-1]:
        time = total(time, lifetimes[kind])
    return time


def _least_rests(waits, lifetimes):
    """Return a dictionary with a tuple (time, kinds) for each (first, last) between which a way is.

    The time is the least one from the release of a holder of the first kind to the issue of one of the last kind, and
    `kinds` the list of the kinds by which it comes. A wait that is None is no way.
    """
    found = {}
    for first, row in enumerate(waits):
        for last, wait in enumerate(row):
            if wait is not None:
                found[first, last] = (wait, [first, last])
    for between, lifetime in enumerate(lifetimes):
        if lifetime is not None:
            _take_ways_by(found, len(waits), between, lifetime)
    return found


def _take_ways_by(found, size, between, lifetime):
    """Put the ways that also lead by one more kind in the place of those that take more time."""
    for first in range(size):
        for last in range(size):
            if (first, between) in found and (between, last) in found:
                time, kinds = found[first, between]
                onward, others = found[between, last]
                time = time + lifetime + onward
                if (first, last) not in found or time < found[first, last][0]:
                    found[first, last] = (time, [*kinds, *others[1:]])


def _unsafe_pair(needs, rests):
    """Return the first tuple (first, last) of kinds between which a rest is less than the one they need, or None."""
    for first, row in enumerate(needs):
        for last, needed in enumerate(row):
            if (first, last) in rests and (needed == ENDLESS or rests[first, last][0] < needed):
                return first, last
    return None


def _time_around(rests, first, last, lifetime):
    """Return the least rest between two kinds with the lifetime of one of them, 0 for one kind, None without a way."""
    if first == last:
        return 0
    return total(rests[first, last][0], lifetime) if (first, last) in rests else None
