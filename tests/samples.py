"""Behaviors and values that several tests use."""

from reissue.behaviors import Behavior


def session():
    """Return the session of the document's examples."""
    links = [(0, 1, 10, None, False), (0, 2, 5, 90, True), (1, 2, 5, 30, True)]
    return Behavior(3, links, [(2, 0)], [(0, 0)])


def ping():
    """Return the ping of the document's examples."""
    links = [(0, 2, 1, 9, False), (0, 1, 4, 8, False), (2, 3, 2, 20, True), (3, 2, 0, 0, False)]
    return Behavior(4, links, [(3, 0)], [(0, 0)])


def linked(events, *links):
    """Return a behavior with these links and without ports."""
    return Behavior(events, list(links), [], [])


def nested(depth):
    """Return a value that is that deep."""
    value = 0
    for turn in range(depth):
        value = [[value], (value,), {"key": value}][turn % 3]
    return value


def values_but_behaviors():
    """Return values of every kind, behaviors left out."""
    return [
        None, True, False, 0, 1, -1, 2, 3, 10 ** 40, -(10 ** 40), "", "0", "never", "endless", [], [0], [None], [[]],
        [()], (), (0,), (0, 0), (3, [], [], []), ((2, 0),), [(0, None, None, 0, 0)], {}, {0: 0}, {"events": 3},
        [{}], [session()], (session(),), {"a": session()}, nested(50),
    ]
