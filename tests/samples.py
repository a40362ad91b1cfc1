"""Behaviors and values that several tests use."""

import random

from reissue.behaviors import Behavior


def session():
    """Return the session of the document's examples."""
    links = [(0, 1, 10, None, False), (0, 2, 5, 90, True), (1, 2, 5, 30, True)]
    return Behavior(3, links, [(2, 0)], [(0, 0)])


def ping():
    """Return the ping of the document's examples."""
    links = [(0, 2, 1, 9, False), (0, 1, 4, 8, False), (2, 3, 2, 20, True), (3, 2, 0, 0, False)]
    return Behavior(4, links, [(3, 0)], [(0, 0)])


def slow():
    """Return the slow one of the document's examples."""
    return Behavior(4, [(0, 3, 25, 40, False), (3, 1, 0, None, False)], [], [(3, 0)])


def linked(events, *links):
    """Return a behavior with these links and without ports."""
    return Behavior(events, list(links), [], [])


def made(lifetime, late, most=None):
    """Return a behavior with this lifetime and an excess of `late` (at least the opposite of the lifetime)."""
    links = [(0, 1, lifetime, most, False), (0, 2, 0, lifetime + late, False)]
    return Behavior(3, links, [(2, 0)], [(0, 0)])


def some_behaviors(count, events, links, seed, ports=0):
    """Return so many behaviors of at most so many events and links, the same ones for each seed."""
    chance = random.Random(seed)
    found = []
    for _ in range(count):
        size = chance.randint(2, events)
        rows = []
        for _ in range(chance.randint(1, links)):
            least = chance.choice([0, 0, 1, 2, 3])
            most = chance.choice([None, least, least, least + 1, least + 4])
            rows.append((chance.randrange(size), chance.randrange(1, size), least, most, chance.random() < 0.4))
        heard = {(chance.randrange(size), chance.randrange(ports)) for _ in range(ports)}
        opens = {(chance.randrange(size), chance.randrange(ports)) for _ in range(ports)}
        found.append(Behavior(size, rows, sorted(heard), sorted(opens)))
    return found


def some_pairs(count, events, links, seed, ports=2):
    """Return so many tuples of an earlier and a later behavior, each fourth time the same one twice."""
    rows = some_behaviors(2 * count, events, links, seed, ports)
    return [(rows[2 * at], rows[2 * at] if at % 4 == 0 else rows[2 * at + 1]) for at in range(count)]


def nested(depth):
    """Return a value that is that deep."""
    value = 0
    for turn in range(depth):
        value = [[value], (value,), {"key": value}][turn % 3]
    return value


def values_but_behaviors():
    """Return values of every kind, behaviors left out."""
    return [
        None, True, False, 0, 1, -1, 2, 3, 10 ** 40, -(10 ** 40), "", "0", "never", "endless", [], [0], [None], [[]],
        [()], (), (0,), (0, 0), (3, [], [], []), ((2, 0),), [(0, None, None, 0, 0)], {}, {0: 0}, {"events": 3},
        [{}], [session()], (session(),), {"a": session()}, nested(50),
    ]
