"""Pools: identifiers that are handed out in the order in which they were released, or in another one."""

from reissue.behaviors import Behavior, check_behavior
from reissue.checks import check_at_least, is_at_least, is_index, is_whole
from reissue.errors import InvalidList, InvalidNumber, NoneFree, NotOut
from reissue.lengths import ENDLESS
from reissue.times import least_times
from reissue.waits import least_wait

MOST_SIZE = 60
OLDEST = "oldest"
NEWEST = "newest"
LOWEST = "lowest"
HANDED_OUT = "issue"
TAKEN_BACK = "release"


def gap(size, holders, pace, lifetime):
    """Return the least time between the release of an identifier and its next issue."""
    _check_pool(size, holders, pace, lifetime)
    # When it is released, at least so many others wait that come before it.
    return _least_time(size - holders, holders, pace, lifetime)


def size_for(behavior, holders, pace, wait):
    """Return the least size with which the gap, or the wait, is safe for the behavior, ENDLESS if there is none."""
    check_behavior(behavior)
    check_at_least(holders, 1)
    check_at_least(pace, 0)
    check_at_least(wait, 0)
    needed = least_wait(behavior, behavior)
    if needed == ENDLESS:
        return ENDLESS
    # Without a release no wait is needed, so there is a lifetime behind this.
    if needed <= wait:
        return holders
    others = _least_others(needed, holders, pace, least_times(behavior)[Behavior.RELEASE])
    return ENDLESS if others is None else holders + others


def gap_of(size, holders, pace, lifetime, schedule):
    """Return the least time between a release and the next issue of the identifier in a schedule, None without any."""
    _check_pool(size, holders, pace, lifetime)
    if not _are_rows(schedule, size):
        raise InvalidList(schedule)
    issues, releases, out = [], [], {}
    for time, word, number in schedule:
        if word == HANDED_OUT:
            fits = number == _number_in_turn(size, len(issues), releases) and len(out) < holders
            if not fits or issues and time - issues[-1] < pace:
                raise InvalidList(schedule)
            issues.append(time)
            out[number] = time
        else:
            if number not in out or time - out[number] < lifetime:
                raise InvalidList(schedule)
            releases.append((time, number))
            del out[number]
    # Whatever was released is issued again in the same order, behind those that were never issued.
    gaps = [time - released for time, (released, _) in zip(issues[size:], releases)]
    return min([int(time) for time in gaps], default=None)


def worst_schedule(size, holders, pace, lifetime):
    """Return a schedule with the least possible gap."""
    _check_pool(size, holders, pace, lifetime)
    rows = [(number * pace, HANDED_OUT, number) for number in range(holders)]
    # Late enough for all to be released at once, and for the next issue at the same time.
    begin = (holders - 1) * pace + max(int(lifetime), int(pace))
    rows.extend([(begin, TAKEN_BACK, number) for number in range(holders)])
    for turn in range(size - holders + 1):
        time = begin + _least_time(turn, holders, pace, lifetime)
        if turn >= holders:
            rows.append((time, TAKEN_BACK, turn))
        # The one that was released first comes behind all that were never issued.
        rows.append((time, HANDED_OUT, (holders + turn) % size))
    return rows


class Pool:
    """Identifiers that are handed out and taken back; those that were released rest for a wait."""

    def __init__(self, size, *, order="oldest", wait=0):
        if not is_at_least(size, 1) or size > MOST_SIZE:
            raise InvalidNumber(size)
        if order not in (OLDEST, NEWEST, LOWEST):
            raise InvalidNumber(order)
        check_at_least(wait, 0)
        self._size = size
        self._order = order
        self._wait = wait
        # The time of the last call; None before the first one.
        self._now = None
        # Tuples (number, time) of those that are not out: first those that were never released, whose time is None,
        # then the others in the order of their releases.
        self._line = [(number, None) for number in range(size)]

    def issue(self, time):
        """Hand out an identifier that is not out and does not rest, and return it."""
        self._check_time(time)
        ready = [(number, at) for number, at in self._line if at is None or time - at >= self._wait]
        if not ready:
            raise NoneFree()
        chosen = self._first_of(ready)
        self._line = [(number, at) for number, at in self._line if number != chosen]
        self._now = time
        return chosen

    def release(self, number, time):
        """Take an identifier back."""
        self._check_time(time)
        if not is_index(number, self._size) or number in self:
            raise NotOut(number)
        self._line.append((number, time))
        self._now = time

    def free(self):
        """Return the ascending list of the identifiers that are not out."""
        return sorted([int(number) for number, _ in self._line])

    def __len__(self):
        return len(self._line)

    def __contains__(self, number):
        return is_whole(number) and any([number == row[0] for row in self._line])

    def _check_time(self, time):
        """Raise InvalidNumber unless the value is a time that is not before the last call."""
        if not is_whole(time) or self._now is not None and time < self._now:
            raise InvalidNumber(time)

    def _first_of(self, ready):
        """Return the identifier whose turn it is among some rows of the line."""
        if self._order == LOWEST:
            return min([int(number) for number, _ in ready])
        if self._order == NEWEST and ready[-1][1] is not None:
            return ready[-1][0]
        return ready[0][0]


def _check_pool(size, holders, pace, lifetime):
    """Raise InvalidNumber for the first number that does not fit, the holders before the size."""
    check_at_least(holders, 1)
    check_at_least(size, holders)
    check_at_least(pace, 0)
    check_at_least(lifetime, 0)


def _round_time(holders, pace, lifetime):
    """Return the least time from one issue to the one that comes as many issues later as there are holders."""
    return max(int(lifetime), holders * pace)


def _least_time(others, holders, pace, lifetime):
    """Return the least time for so many issues before another one, if all holders can begin anew."""
    rounds, rest = divmod(others, holders)
    return rounds * _round_time(holders, pace, lifetime) + rest * pace


def _least_others(needed, holders, pace, lifetime):
    """Return the least number of issues that take at least the needed time (above 0), None if there is none."""
    time = _round_time(holders, pace, lifetime)
    if time == 0:
        return None
    rounds, rest = divmod(needed, time)
    # What is left of the time needs no more than another round.
    more = holders if rest > (holders - 1) * pace else -(-rest // max(1, pace))
    return rounds * holders + more


def _are_rows(value, size):
    """Return whether the value is a list of tuples (time, word, number) in which the times do not fall."""
    if not isinstance(value, list) or not all([_is_row(row, size) for row in value]):
        return False
    return all([before[0] <= after[0] for before, after in zip(value, value[1:])])


def _is_row(value, size):
    """Return whether the value is a tuple (time, word, number) for an identifier of a pool of this size."""
    if not isinstance(value, tuple) or len(value) != 3:
        return False
    time, word, number = value
    return is_whole(time) and word in (HANDED_OUT, TAKEN_BACK) and is_index(number, size)


def _number_in_turn(size, turn, releases):
    """Return the identifier that the issue with this number hands out, None if there is none."""
    if turn < size:
        return turn
    return releases[turn - size][1] if turn - size < len(releases) else None
