"""Behaviors: what the holder of an identifier may bring about, and the runs in which it happens."""

from reissue.checks import is_at_least, is_index, is_whole
from reissue.errors import InvalidBehavior


class Behavior:
    """Events, the links that lead from one to another, and the ports at which events are heard or which they open."""

    ISSUE = 0
    RELEASE = 1

    def __init__(self, events, links, heard, opens):
        if not _fit(events, links, heard, opens):
            raise InvalidBehavior((events, links, heard, opens))
        self._events = events
        self._links = list(links)
        # No tuple stands in one of these lists twice, so a set loses none.
        self._heard = sorted(set(heard))
        self._opens = sorted(set(opens))

    @property
    def events(self):
        """How many events there are."""
        return self._events

    @property
    def links(self):
        """The tuples (cause, effect, least, most, many), in the given order."""
        return list(self._links)

    @property
    def heard(self):
        """The tuples (event, port) of what is heard, in ascending order."""
        return list(self._heard)

    @property
    def opens(self):
        """The tuples (event, port) of what opens a port, in ascending order."""
        return list(self._opens)

    def __eq__(self, other):
        return (
            isinstance(other, Behavior)
            and self._events == other._events
            and self._links == other._links
            and self._heard == other._heard
            and self._opens == other._opens
        )

    def __contains__(self, port):
        return is_whole(port) and any([port == row[1] for row in self._heard + self._opens])


def check_behavior(value):
    """Raise InvalidBehavior unless the value is a behavior."""
    if not isinstance(value, Behavior):
        raise InvalidBehavior(value)


def is_run(behavior, run):
    """Return whether the value is a run of the behavior."""
    check_behavior(behavior)
    if not isinstance(run, list) or not all([_is_occurrence(row) for row in run]):
        return False
    # All events and times are whole numbers by now, so False does not pass for 0 here.
    if run[:1] != [(Behavior.ISSUE, None, None, 0)]:
        return False
    links = behavior.links
    return all([_follows(links, run, at) for at in range(1, len(run))]) and _comes_once(links, run)


def _fit(events, links, heard, opens):
    """Return whether a behavior can be made of the four values."""
    if not is_at_least(events, 2) or not isinstance(links, list):
        return False
    return all([_is_link(link, events) for link in links]) and _are_ports(heard, events) and _are_ports(opens, events)


def _is_link(value, events):
    """Return whether the value is a tuple (cause, effect, least, most, many) over so many events."""
    if not isinstance(value, tuple) or len(value) != 5:
        return False
    cause, effect, least, most, many = value
    if not is_index(cause, events) or not is_index(effect, events) or effect == Behavior.ISSUE:
        return False
    return is_at_least(least, 0) and (most is None or is_at_least(most, least)) and isinstance(many, bool)


def _are_ports(value, events):
    """Return whether the value is a list of tuples (event, port) over so many events, none of them twice."""
    if not isinstance(value, list) or not all([_is_port(row, events) for row in value]):
        return False
    return len(set(value)) == len(value)


def _is_port(value, events):
    """Return whether the value is a tuple (event, port) over so many events."""
    if not isinstance(value, tuple) or len(value) != 2:
        return False
    return is_index(value[0], events) and is_at_least(value[1], 0)


def _is_occurrence(value):
    """Return whether the value is a tuple of four with whole numbers as the event and the time."""
    return isinstance(value, tuple) and len(value) == 4 and is_whole(value[0]) and is_whole(value[3])


def _follows(links, run, at):
    """Return whether the occurrence at an index after 0 comes of an earlier one by a link and its delays."""
    event, cause, link, time = run[at]
    if not is_index(cause, at) or not is_index(link, len(links)):
        return False
    before, effect, least, most, _ = links[link]
    delay = time - run[cause][3]
    return before == run[cause][0] and effect == event and least <= delay and (most is None or delay <= most)


def _comes_once(links, run):
    """Return whether no link that is not many occurs twice with one cause."""
    singles = [(cause, link) for _, cause, link, _ in run[1:] if not links[link][4]]
    return len(set(singles)) == len(singles)
