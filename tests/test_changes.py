import unittest

from reissue.behaviors import Behavior
from reissue.changes import apart, check_apart, quiet, slack, tight_links
from reissue.errors import InvalidBehavior, InvalidNumber
from reissue.rules import Rule
from reissue.times import earliest
from reissue.waits import excess, least_wait

from reckoning import FAR, latest_of_walks, runs
from samples import linked, made, nested, ping, session, slow, some_behaviors, some_pairs, values_but_behaviors

HIGH = 10 ** 40 - 1
OPENING = Behavior(2, [], [], [(0, 0)])
NO_NUMBERS = [-1, -HIGH, True, False, None, "", "1", "endless", [], [1], (1,), {}, session(), Rule(1), nested(50)]


def lease():
    """Return the session of the document's examples with an end."""
    return Behavior(3, [(0, 1, 10, 60, False), (0, 2, 5, 90, True), (1, 2, 5, 30, True)], [(2, 0)], [(0, 0)])


def hearing(*links, heard=((2, 0),)):
    """Return a behavior with these links, over as many events as they need."""
    return Behavior(max([2, *[max(link[:2]) + 1 for link in links]]), list(links), list(heard), [])


def opening(*times):
    """Return a behavior that opens the port 0 at the first time, 1 at the second one and so on."""
    links = [(0, 2 + port, time, None, False) for port, time in enumerate(times)]
    return Behavior(2 + len(times), links, [], [(2 + port, port) for port in range(len(times))])


def heard_late(*times):
    """Return a behavior that hears at the port 0 until the first time after its release, and so on."""
    links = [(0, 1, 0, 0, False), *[(1, 2 + port, 0, time, False) for port, time in enumerate(times)]]
    return Behavior(2 + len(times), links, [(2 + port, port) for port in range(len(times))], [])


def with_most(behavior, link, most):
    links = behavior.links
    links[link] = (*links[link][:3], most, links[link][4])
    return Behavior(behavior.events, links, behavior.heard, behavior.opens)


class Example(unittest.TestCase):
    def test_session_and_lease(self):
        told = [quiet(session(), session()), quiet(lease(), lease()), slack(session(), session(), 80, 2),
                tight_links(session(), session()), apart(session(), lease())]
        self.assertEqual(told, ["endless", 90, 50, [1], None])


class Errors(unittest.TestCase):
    def test_no_behavior(self):
        for value in values_but_behaviors():
            for function in [quiet, tight_links, apart]:
                for arguments in [(value, session()), (session(), value), (value, None)]:
                    self.assert_behavior(value, function, *arguments)
            for rest in [(80, 0), (-1, -1), (None, None)]:
                for arguments in [(value, session()), (session(), value), (value, None)]:
                    self.assert_behavior(value, slack, *arguments, *rest)
            for arguments in [(value, session()), (session(), value), (value, None)]:
                self.assert_behavior(value, check_apart, *arguments, None)

    def assert_behavior(self, value, function, *arguments):
        with self.assertRaises(InvalidBehavior) as caught:
            function(*arguments)
        self.assertIs(caught.exception.value, value)

    def assert_number(self, value, *arguments):
        with self.assertRaises(InvalidNumber) as caught:
            slack(*arguments)
        self.assertIs(caught.exception.value, value)

    def test_waits(self):
        for value in [*NO_NUMBERS, 0, 1, 78, 79]:
            for link in [0, 1, 2, 3, -1, None]:
                self.assert_number(value, session(), session(), value, link)
        endless = hearing((0, 1, 0, 0, False), (0, 2, 0, None, False))
        for value in [0, 5, HIGH]:
            for link in [0, 1, 2]:
                self.assert_number(value, endless, OPENING, value, link)

    def test_links(self):
        for value in [*NO_NUMBERS, 3, 4, 60, HIGH, -3]:
            for wait in [80, 81, HIGH]:
                self.assert_number(value, session(), session(), wait, value)
        self.assert_number(0, linked(2), linked(2), 0, 0)

    def test_nothing_is_changed(self):
        one, other = session(), lease()
        for _ in range(2):
            told = [quiet(one, other), slack(one, other, 85, 1), tight_links(one, other)]
            self.assertEqual(told, ["endless", 5, [1]])
            self.assertIsNone(apart(one, other))
            self.assertIs(check_apart(one, other, (one, "later")), False)
        self.assertEqual((one, other), (session(), lease()))


class Point70(unittest.TestCase):
    def test_with_a_release_and_without(self):
        # 2 comes until 7 after the issue, or until 3 after a release; the release comes until 9, or never.
        links = [(0, 2, 1, 7, False), (1, 2, 0, 3, False)]
        self.assertEqual(quiet(hearing(*links), OPENING), 7)
        self.assertEqual(quiet(hearing(*links, (0, 1, 2, 9, False)), OPENING), 12)
        self.assertEqual(quiet(hearing(*links, (0, 1, 2, 3, False)), OPENING), 7)
        self.assertEqual(quiet(hearing(*links, (0, 1, 2, None, False)), OPENING), "endless")

    def test_openers(self):
        for time in range(10):
            self.assertEqual(quiet(made(2, 4), opening(time)), max(0, 6 - time))
        self.assertEqual(quiet(made(2, 4), opening()), 0)
        self.assertEqual(quiet(heard_late(5, 9, 2), opening(1, 7)), 4)
        self.assertEqual(quiet(heard_late(5, 9, 2), opening(4, 3)), 6)
        self.assertEqual(quiet(heard_late(5), Behavior(3, [(2, 2, 0, 0, False)], [], [(2, 0)])), 0)

    def test_latest_counts(self):
        links = [(0, 2, 0, 4, False), (0, 3, 1, 5, False), (3, 2, 1, 5, False), (2, 1, 0, 0, False)]
        self.assertEqual(quiet(hearing(*links), OPENING), 10)
        self.assertEqual(quiet(hearing(*links, heard=[(0, 0), (3, 0)]), OPENING), 5)
        self.assertEqual(quiet(hearing(*links, heard=[(0, 0)]), OPENING), 0)
        self.assertEqual(quiet(hearing(*links, heard=[(1, 0)]), OPENING), 10)

    def test_excess_below_0(self):
        # What is heard comes long before the release: no wait is needed, but quiet is.
        behavior = hearing((0, 1, 50, 50, False), (0, 2, 0, 8, False))
        self.assertEqual([excess(behavior, OPENING), quiet(behavior, OPENING)], [-42, 8])
        self.assertEqual(quiet(behavior, opening(8)), 0)
        self.assertEqual(quiet(behavior, opening(9)), 0)

    def test_rings(self):
        for most, told in [(0, 3), (1, "endless"), (HIGH, "endless"), (None, "endless")]:
            rows = [(0, 2, 1, 3, False), (2, 3, 0, 0, False), (3, 2, 0, most, False)]
            self.assertEqual(quiet(hearing(*rows), OPENING), told)
            self.assertEqual(quiet(hearing(*rows, (0, 1, 0, 0, False)), OPENING), told)
            self.assertEqual(quiet(hearing(*rows, heard=[(3, 0)]), opening(1)), 2 if most == 0 else "endless")
        # A ring of the release, one that cannot be reached, and one behind which nothing is heard.
        again = hearing((0, 1, 0, 0, False), (1, 1, 1, 1, False), (1, 2, 0, 0, False))
        self.assertEqual(quiet(again, OPENING), "endless")
        self.assertEqual(quiet(hearing((0, 1, 0, 5, False), (2, 2, 1, 1, False), (2, 1, 0, 0, True)), OPENING), 0)
        self.assertEqual(quiet(hearing((0, 2, 0, 5, False), (2, 3, 0, 0, False), (3, 3, 1, 1, False)), OPENING), 5)

    def test_endless_only_if_the_opener_can_occur(self):
        behavior = hearing((0, 2, 0, None, False))
        self.assertEqual(quiet(behavior, Behavior(3, [(2, 2, 0, 0, False)], [], [(2, 0)])), 0)
        self.assertEqual(quiet(behavior, Behavior(3, [(0, 2, HIGH, None, False)], [], [(2, 0)])), "endless")

    def test_words_of_the_document(self):
        told = []
        for earlier, later in some_pairs(400, 6, 12, 70):
            last, first = latest_of_walks(earlier), earliest(later)
            rows = [(last[f], first[o]) for f, port in earlier.heard for o, other in later.opens if port == other]
            rows = [row for row in rows if "never" not in row]
            if any(row[0] == "endless" for row in rows):
                expected = "endless"
            else:
                expected = max([0, *[row[0] - row[1] for row in rows]])
            self.assertEqual(quiet(earlier, later), expected, (earlier.links, later.links))
            told.append(expected)
        self.assertTrue({0, 1, 2, 3, "endless"} <= set(told))

    def test_short_runs(self):
        equal = 0
        for earlier, later in some_pairs(100, 3, 4, 71):
            opened = {}
            for run in runs(later, 4):
                for event, _, _, time in run:
                    for opener, port in later.opens:
                        if opener == event:
                            opened[port] = min(time, opened.get(port, time))
            found = [time - opened[port] for run in runs(earlier, 4) for event, _, _, time in run
                     for hearer, port in earlier.heard if hearer == event and port in opened]
            told, harm = quiet(earlier, later), max([0, *found])
            if harm > FAR // 2:
                self.assertEqual(told, "endless")
            elif told != "endless":
                self.assertLessEqual(harm, told)
                equal += harm == told
        self.assertGreater(equal, 30)

    def test_long_numbers(self):
        chain = [(at, at + 1, 0, HIGH, False) for at in range(2, 29)]
        behavior = hearing((0, 2, 0, HIGH, False), *chain, heard=[(29, 0)])
        self.assertEqual(quiet(behavior, OPENING), 28 * HIGH)
        self.assertEqual(quiet(behavior, opening(HIGH)), 27 * HIGH)


class Point71(unittest.TestCase):
    def assert_slack(self, told, earlier, later, wait, link):
        self.assertEqual(slack(earlier, later, wait, link), told, (earlier.links, later.links, wait, link))
        self.assert_greatest(earlier, later, wait, link)

    def assert_greatest(self, earlier, later, wait, link):
        """Check the told slack by the least waits with the most greater by it, and by one more."""
        told, most = slack(earlier, later, wait, link), earlier.links[link][3]
        if told == "endless":
            mosts = [] if most is None else [most, most + 1, most + HIGH * HIGH]
            self.assert_waits(earlier, later, wait, link, [*mosts, None], True)
        else:
            self.assertIs(told.__class__, int)
            self.assertGreaterEqual(told, 0)
            self.assert_waits(earlier, later, wait, link, [most, most + told], True)
            self.assert_waits(earlier, later, wait, link, [most + told + 1, most + told + HIGH, None], False)

    def assert_waits(self, earlier, later, wait, link, mosts, safe):
        for most in mosts:
            found = least_wait(with_most(earlier, link, most), later)
            self.assertIs(found != "endless" and found <= wait, safe, (earlier.links, later.links, wait, link, most))

    def test_session(self):
        for wait in [80, 81, 100, HIGH]:
            self.assert_slack("endless", session(), session(), wait, 0)
            self.assert_slack(wait - 80, session(), session(), wait, 1)
            self.assert_slack(wait - 30, session(), session(), wait, 2)

    def test_link_that_cannot_occur(self):
        behavior = hearing((0, 1, 4, 4, False), (0, 2, 0, 9, False), (3, 2, 0, 7, True))
        self.assert_slack("endless", behavior, OPENING, 5, 2)
        self.assert_slack(0, behavior, OPENING, 5, 1)
        self.assert_slack("endless", behavior, OPENING, 5, 0)

    def test_links_that_do_not_matter(self):
        # A link on the way to the release only, one that leads to nothing that is heard, and one to another port.
        links = [(0, 3, 1, 4, False), (3, 1, 1, 1, False), (0, 2, 0, 9, False), (2, 4, 0, 3, False)]
        links.append((2, 5, 0, 3, False))
        behavior = hearing(*links, heard=[(2, 0), (5, 1)])
        self.assertEqual([slack(behavior, OPENING, 9, link) for link in range(5)], ["endless", "endless", 2, "endless",
                                                                                    "endless"])
        self.assertEqual(slack(behavior, opening(0, 0), 10, 4), 0)
        for link in range(5):
            self.assert_greatest(behavior, OPENING, 9, link)
            self.assert_greatest(behavior, opening(0, 0), 13, link)

    def test_no_release(self):
        behavior = hearing((0, 2, 0, 9, False), (2, 2, 1, 1, True), (0, 2, 5, None, True))
        for link in range(3):
            self.assert_slack("endless", behavior, OPENING, 0, link)

    def test_least_delays_on_the_way_to_the_release(self):
        # The link itself leads to the release and to what is heard: only as the first one of what is late it counts.
        for many in [False, True]:
            behavior = hearing((0, 3, 2, 6, many), (3, 1, 1, 1, False), (3, 2, 0, 8, False))
            self.assert_slack(0 if many else "endless", behavior, OPENING, 11 if many else 7, 0)
            self.assert_slack(3, behavior, OPENING, 14 if many else 10, 2)

    def test_excess_below_0(self):
        for late in range(-9, 0):
            self.assert_slack(-late, made(9, late), made(9, late), 0, 1)
            self.assert_slack(7 - late, made(9, late), made(9, late), 7, 1)
        self.assertEqual(tight_links(made(9, -1), made(9, -1)), [])
        self.assertEqual(tight_links(made(9, 0), made(9, 0)), [1])
        self.assertEqual(tight_links(made(9, 1), made(9, 1)), [1])

    def test_openers_that_come_late(self):
        for time in range(20):
            wait = max(0, 5 - time)
            self.assert_slack(max(0, time - 5), made(4, 5), opening(time), wait, 1)

    def test_rings(self):
        # Of a ring without delays, each link can only have none; of one on which nothing is heard, any.
        links = [(0, 1, 2, 2, False), (0, 2, 1, 5, False), (2, 3, 0, 0, False), (3, 2, 0, 0, False)]
        links.append((3, 4, 0, 3, False))
        behavior = hearing(*links, heard=[(2, 0)])
        self.assertEqual(least_wait(behavior, OPENING), 3)
        for wait in [3, 4, HIGH]:
            for link, told in enumerate(["endless", wait - 3, 0, 0, "endless"]):
                self.assert_slack(told, behavior, OPENING, wait, link)
        self.assertEqual(tight_links(behavior, OPENING), [1, 2, 3])
        behavior = hearing(*links, heard=[(4, 0)])
        self.assertEqual([slack(behavior, OPENING, 9, link) for link in range(5)], ["endless", 3, 0, 0, 3])
        self.assertEqual(tight_links(behavior, OPENING), [1, 2, 3, 4])
        itself = hearing((0, 1, 2, 2, False), (0, 2, 1, 5, False), (2, 2, 0, 0, False))
        self.assert_slack(0, itself, OPENING, HIGH, 2)
        # Where the excess is below 0, a ring can still have no delay.
        early = hearing((0, 1, 9, 9, False), (0, 2, 1, 5, False), (2, 2, 0, 0, False))
        self.assertEqual([excess(early, OPENING), tight_links(early, OPENING)], [-4, [2]])
        # The release may come again.
        again = hearing((0, 1, 2, 2, False), (1, 1, 0, 0, False), (1, 2, 0, 3, False))
        for link, told in enumerate(["endless", 0, 4]):
            self.assert_slack(told, again, OPENING, 7, link)

    def test_two_links_of_one_kind(self):
        twice = hearing((0, 1, 2, 2, False), (0, 2, 1, 5, False), (0, 2, 1, 5, False))
        self.assertEqual([slack(twice, OPENING, 6, link) for link in range(3)], ["endless", 3, 3])
        self.assertEqual(tight_links(twice, OPENING), [1, 2])

    def test_the_later_one_stays_as_it_is(self):
        behavior = Behavior(3, [(0, 1, 2, 2, False), (0, 2, 3, 5, False)], [(2, 0)], [(2, 0)])
        self.assert_slack(4, behavior, behavior, 4, 1)

    def test_tight_links(self):
        endless = hearing((0, 1, 0, 0, False), (0, 2, 0, None, False))
        self.assertIsNone(tight_links(endless, OPENING))
        self.assertEqual(tight_links(endless, opening()), [])
        self.assertEqual(tight_links(linked(2), linked(2)), [])
        self.assertEqual(tight_links(ping(), OPENING), None)
        self.assertEqual(tight_links(slow(), session()), [])
        self.assertEqual(tight_links(session(), slow()), [1])
        row = hearing((0, 1, 1, 3, False), (0, 2, 2, 4, False), (2, 3, 1, 2, False), heard=[(3, 0)])
        self.assertEqual(tight_links(row, OPENING), [1, 2])

    def test_long_numbers(self):
        behavior = hearing((0, 1, HIGH, HIGH, False), (0, 2, 0, HIGH, True), (2, 2, 0, 0, False))
        self.assert_slack(HIGH, behavior, OPENING, HIGH, 1)
        self.assert_slack(2 * HIGH, behavior, opening(HIGH), HIGH, 1)
        self.assert_slack(0, behavior, opening(HIGH), HIGH, 2)

    def test_some_pairs(self):
        told = []
        for earlier, later in [*some_pairs(100, 5, 9, 72), *self.some_finite(300)]:
            wait = least_wait(earlier, later)
            for more in [] if wait == "endless" else [0, 1, 7]:
                for link in range(len(earlier.links)):
                    self.assert_greatest(earlier, later, wait + more, link)
                    told.append(slack(earlier, later, wait + more, link))
        for number in [*range(12), "endless"]:
            self.assertGreater(told.count(number), 5)

    def some_finite(self, count):
        """Return pairs of a behavior of links with an upper end, that hears at its last event, and one that opens."""
        found = []
        for at, behavior in enumerate(some_behaviors(count, 5, 8, 73)):
            links = [(*link[:3], link[2] + 3 if link[3] is None else link[3], link[4]) for link in behavior.links]
            # Most rings have delays: without the links back to lower events, some slacks are not 0.
            links = [link for link in links if at % 4 == 0 or link[1] == 1 or link[0] < link[1]]
            heard = sorted({(behavior.events - 1, 0), (1, 0)})
            found.append((Behavior(behavior.events, links, heard, []), opening(at % 5)))
        return found

    def test_tight_links_of_some_pairs(self):
        told = []
        for earlier, later in [*some_pairs(100, 5, 9, 74), *self.some_finite(300)]:
            wait = least_wait(earlier, later)
            if wait == "endless":
                self.assertIsNone(tight_links(earlier, later))
            else:
                rows = [link for link in range(len(earlier.links)) if slack(earlier, later, wait, link) == 0]
                self.assertEqual(tight_links(earlier, later), rows)
                told.append(len(rows))
        self.assertTrue({0, 1, 2, 3} <= set(told))

    def test_told_list_is_new(self):
        tight_links(session(), session()).append(7)
        self.assertEqual(tight_links(session(), session()), [1])


def thirds():
    """Return many behaviors with which two others can be compared."""
    found = [opening(time) for time in range(9)] + [opening(0, time) for time in range(9)]
    found += [opening(*[HIGH] * port, time) for port in range(3) for time in range(4)]
    found += [heard_late(time) for time in range(9)] + [heard_late(0, time) for time in range(9)]
    found += [heard_late(*[0] * port, time) for port in range(3) for time in (3, 30, HIGH, None)]
    return found + some_behaviors(60, 5, 8, 74, 2) + [session(), slow(), ping(), lease()]


THIRDS = thirds()


def all_waits(behavior):
    """Return the least waits with all these behaviors: a list of those as the earlier one, and one as the later one."""
    return [[least_wait(behavior, third) for third in THIRDS], [least_wait(third, behavior) for third in THIRDS]]


def differing(first, second):
    """Return the tuples (third, word) of those behaviors with which such lists of waits of two behaviors differ."""
    return [(third, word) for word, one, other in zip(["earlier", "later"], first, second)
            for third, wait, another in zip(THIRDS, one, other) if wait != another]


class Point72(unittest.TestCase):
    def assert_apart(self, one, other, word):
        told = apart(one, other)
        self.assertIs(told.__class__, tuple)
        self.assertEqual((len(told), told[0].__class__, told[1]), (2, Behavior, word))
        self.assertIs(check_apart(one, other, told), True)
        self.assertIs(check_apart(other, one, told), True)
        self.assertIs(check_apart(one, one, told), False)

    def test_same(self):
        for behavior in [session(), slow(), ping(), linked(2), made(3, HIGH)]:
            self.assertIsNone(apart(behavior, behavior))
        # Other links, events and ports that are not heard where it matters.
        for other in [
            lease(), Behavior(4, session().links[::-1], [(2, 0), (3, 1), (3, 0)], [(0, 0), (3, 0), (3, 5)]),
            Behavior(3, [(0, 1, 0, 0, False), (1, 2, 0, 80, False)], [(2, 0)], [(0, 0), (1, 0)]),
        ]:
            self.assertIsNone(apart(session(), other))
            self.assertIsNone(apart(other, session()))
            self.assertEqual(differing(all_waits(session()), all_waits(other)), [])

    def test_excess_below_0_is_no_matter(self):
        for late in range(-5, 1):
            self.assertIsNone(apart(made(5, late), made(5, -5)))
            self.assertEqual(apart(made(5, late), made(5, 1))[1], "earlier")
        without = Behavior(3, [], [], [(0, 0)])
        self.assertIsNone(apart(made(5, 0), without))
        self.assertIsNone(apart(without, Behavior(3, [(0, 2, 5, None, False)], [(2, 0)], [(0, 0)])))

    def test_as_the_earlier_one(self):
        self.assert_apart(heard_late(5), heard_late(6), "earlier")
        self.assert_apart(heard_late(0), heard_late(1), "earlier")
        self.assert_apart(heard_late(5, 5), heard_late(5, 6), "earlier")
        self.assert_apart(heard_late(5, 5), heard_late(5), "earlier")
        self.assert_apart(heard_late(5), heard_late(None), "earlier")
        self.assert_apart(heard_late(), heard_late(None), "earlier")
        self.assertIsNone(apart(heard_late(None, 3), heard_late(None, 3)))
        self.assertIsNone(apart(heard_late(0), heard_late()))

    def test_as_the_later_one(self):
        self.assert_apart(opening(5), opening(6), "later")
        self.assert_apart(opening(0), opening(1), "later")
        self.assert_apart(opening(0), opening(), "later")
        self.assert_apart(opening(HIGH), opening(), "later")
        self.assert_apart(opening(3, HIGH), opening(3, HIGH - 1), "later")
        self.assertIsNone(apart(opening(3, HIGH), opening(3, HIGH)))
        self.assertIsNone(apart(opening(), Behavior(3, [(2, 2, 0, 0, False)], [], [(2, 0)])))

    def test_ports(self):
        for port in [0, 1, 20, HIGH]:
            hears = Behavior(3, [(0, 1, 0, 0, False), (0, 2, 0, 4, False)], [(2, port)], [])
            opens = Behavior(2, [], [], [(0, port)])
            self.assert_apart(hears, linked(2), "earlier")
            self.assert_apart(linked(2), opens, "later")
            self.assert_apart(opens, Behavior(2, [], [], [(0, port + 1)]), "later")

    def test_against_many_thirds(self):
        rows = some_behaviors(120, 4, 6, 75, 2) + some_behaviors(60, 3, 3, 76, 1)
        rows += [heard_late(time) for time in (0, 1, 2)] + [opening(time) for time in (0, 1)] + [opening()]
        rows = [(behavior, all_waits(behavior)) for behavior in rows]
        same = 0
        for at, (one, waits) in enumerate(rows):
            for other, others in rows[at % 7::7]:
                told, found = apart(one, other), differing(waits, others)
                self.assertEqual(told is None, found == [], (one.links, other.links))
                same += told is None and one != other
                for claim in found[:3] if told is None else [told, *found[:3]]:
                    self.assertIs(check_apart(one, other, claim), True)
        self.assertGreater(same, 20)

    def test_check_against_many_thirds(self):
        rows = some_behaviors(12, 4, 6, 77, 2)
        for one in rows:
            for other in rows[::3]:
                found = differing(all_waits(one), all_waits(other))
                for third in THIRDS[::3]:
                    for word in ["earlier", "later"]:
                        self.assertIs(check_apart(one, other, (third, word)), (third, word) in found)

    def test_claims(self):
        one, other = heard_late(5), heard_late(6)
        third = opening(2)
        good = (third, "earlier")
        self.assertIs(check_apart(one, other, good), True)
        for claim in [
            *values_but_behaviors(), one, Rule(1), third, "earlier", (third,), (third, "later"), (third, "earlier", 0),
            [third, "earlier"], ("earlier", third), (third, "Earlier"), (third, "earlie"), (third, ""), (third, None),
            (third, ["earlier"]), (third, ("earlier",)), (third, True), (third, third), (third, 0), (None, "earlier"),
            ("third", "earlier"), ([third], "earlier"), (one, "earlier"), (one, "later"), (other, "earlier"),
            (opening(6), "earlier"), (opening(7), "earlier"), (opening(), "earlier"), (Rule(1), "earlier"),
            (good, good),
        ]:
            self.assertIs(check_apart(one, other, claim), False, claim)
        for time, told in [(0, True), (5, True), (6, False)]:
            self.assertIs(check_apart(one, other, (opening(time), "earlier")), told)
        for late, told in [(2, False), (3, True), (4, True), (None, True), (0, False)]:
            self.assertIs(check_apart(opening(2), opening(), (heard_late(late), "later")), told)
            self.assertIs(check_apart(opening(2), opening(), (heard_late(late), "earlier")), False)
        self.assertIs(check_apart(opening(2), opening(3), (heard_late(None), "later")), False)
        for word in ["Later", "late", "laterr", "", "earlier later", None, True, 0, ["later"], ("later",), opening(2)]:
            self.assertIs(check_apart(opening(2), opening(), (heard_late(4), word)), False)

    def test_long_numbers(self):
        self.assert_apart(heard_late(HIGH), heard_late(HIGH - 1), "earlier")
        self.assert_apart(opening(HIGH), opening(HIGH - 1), "later")

    def test_what_was_told_can_be_passed(self):
        one, other = opening(HIGH), opening(HIGH - 1)
        third, word = apart(one, other)
        self.assertEqual([least_wait(third, one) + 1, word], [least_wait(third, other), "later"])
        self.assertIsNone(apart(third, third))


if __name__ == "__main__":
    unittest.main()
