"""Behaviors at the limits of the document, and calls that may not take long."""

import time
import unittest

from reissue.behaviors import Behavior

SECONDS = 5
HIGH = 10 ** 40 - 1
PORTS = [(event, port) for event in range(30) for port in range(21)]


def row(least, most, many):
    """Return the links of 30 events in a row, two links from each event to the next."""
    return [(event, event + 1, least, most, many) for event in range(29) for _ in range(2)]


def ring(least, most, many):
    """Return the links of 29 events in a ring, two from each to the next, and two from the issue to them."""
    turns = [(event, event % 29 + 1, least, most, many) for event in range(1, 30) for _ in range(2)]
    return [(0, 2, least, most, many), (0, 1, least, most, many), *turns]


def itself(least, most, many):
    """Return the links of 30 events in a row, and one from each event but the first to itself."""
    return [link for event in range(29) for link in [
        (event, event + 1, least, most, many), (event + 1, event + 1, least, most, many),
    ]]


def slow_ones():
    """Return behaviors at the limits for which a time for each pair of events takes long."""
    forth, back = list(range(29)), list(range(28, -1, -1))
    quick = [(at, at + 1, 2, 5, False) for at in forth]
    again = [(29, 1, 2, 5, True)] * 2
    return [
        Behavior(30, [(at, at + 1, 3, 8, False) for at in forth] + quick, [(29, 0)], [(0, 0)]),
        Behavior(30, [(at, at + 1, 3, None, False) for at in forth] + again + quick, [(29, 0)], [(0, 0)]),
        Behavior(30, [(at, at + 1, 3, 5, True) for at in back] + again + quick[::-1], [(29, 0)], [(0, 0)]),
    ]


def forty():
    """Return 40 behaviors at the limits, all ports in use."""
    delays = [(0, 0), (0, 1), (1, 1), (HIGH, HIGH), (0, HIGH), (0, None)]
    rows = [shape(*delay, many)[::turn] for shape in (row, ring, itself) for delay in delays for many in (False, True)
            for turn in (1, -1)]
    return [Behavior(30, links, PORTS, PORTS[::-1]) for links in rows[:37]] + slow_ones()


class Timed(unittest.TestCase):
    """A test of calls that have to answer within seconds."""

    def in_time(self, function, *arguments):
        begin = time.perf_counter()
        result = function(*arguments)
        self.assertLess(time.perf_counter() - begin, SECONDS)
        return result
