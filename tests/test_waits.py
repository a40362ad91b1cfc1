import unittest

from reissue.behaviors import Behavior
from reissue.errors import InvalidBehavior
from reissue.times import earliest, lateness
from reissue.waits import excess, least_wait

from reckoning import FAR, runs
from samples import linked, made, session, slow, some_pairs, values_but_behaviors

ONCE = (0, 1, 4, 9, False)


def greatest_harm(earlier, later, size):
    """Return the greatest of all times between an opening and what is heard behind it, less the wait, or None.

    Only runs of at most so many occurrences are looked at; the later run begins a wait after the first release.
    """
    opened = {}
    for run in runs(later, size):
        for event, _, _, time in run:
            for opener, port in later.opens:
                if opener == event:
                    opened[port] = min(time, opened.get(port, time))
    found = []
    for run in runs(earlier, size):
        releases = [row[3] for row in run if row[0] == 1]
        for event, _, _, time in run:
            for hearer, port in earlier.heard:
                if releases and hearer == event and port in opened:
                    found.append(time - min(releases) - opened[port])
    return max(found) if found else None


class Example(unittest.TestCase):
    def test_session(self):
        self.assertEqual([excess(session(), session()), least_wait(session(), slow())], [80, 55])


class Both(unittest.TestCase):
    def test_by_name(self):
        self.assertEqual(excess(later=slow(), earlier=session()), 55)
        self.assertEqual(least_wait(later=slow(), earlier=session()), 55)

    def test_no_behavior(self):
        for function in [excess, least_wait]:
            for value in values_but_behaviors():
                for arguments in [(value, session()), (session(), value), (value, "later")]:
                    with self.assertRaises(InvalidBehavior) as caught:
                        function(*arguments)
                    self.assertIs(caught.exception.value, value)

    def test_nothing_is_changed(self):
        earlier, later = session(), slow()
        self.assertEqual([excess(earlier, later), excess(earlier, later)], [55, 55])
        self.assertEqual((earlier, later), (session(), slow()))


class Point30And31(unittest.TestCase):
    def assert_both(self, earlier, later, found, wait):
        self.assertEqual(excess(earlier, later), found)
        self.assertEqual(least_wait(earlier, later), wait)

    def test_one_port(self):
        hearing = Behavior(3, [ONCE, (0, 2, 1, 30, False)], [(2, 5)], [])
        self.assert_both(hearing, Behavior(2, [], [], [(0, 5)]), 26, 26)
        self.assert_both(hearing, Behavior(3, [(0, 2, 11, 90, False)], [], [(2, 5)]), 15, 15)

    def test_earlier_and_later_are_not_exchanged(self):
        hearing = Behavior(3, [ONCE, (0, 2, 1, 30, False)], [(2, 5)], [])
        opening = Behavior(2, [ONCE], [], [(0, 5)])
        self.assert_both(hearing, opening, 26, 26)
        self.assert_both(opening, hearing, "never", 0)

    def test_no_wait_is_safe_enough_below_the_excess(self):
        # What arrives at the same time as the opening is not misdelivered: 0 and below need no wait.
        for late, wait in [(-4, 0), (-1, 0), (0, 0), (1, 1), (2, 2)]:
            self.assert_both(made(4, late), made(4, late), late, wait)

    def test_openers_that_come_late(self):
        hearing = made(4, 6)
        for at in range(10):
            opening = Behavior(3, [(0, 2, at, None, True)], [], [(2, 0)])
            self.assert_both(hearing, opening, 6 - at, max(0, 6 - at))

    def test_least_opener_counts(self):
        links = [(0, 2, 5, 9, False), (0, 3, 3, 40, False), (3, 2, 1, 1, False)]
        self.assert_both(made(4, 6), Behavior(4, links, [], [(2, 0)]), 2, 2)
        self.assert_both(made(4, 6), Behavior(4, links, [], [(2, 0), (3, 0)]), 3, 3)
        self.assert_both(made(4, 6), Behavior(4, links, [], [(2, 0), (3, 0), (0, 1)]), 3, 3)

    def test_latest_of_what_is_heard_counts(self):
        links = [ONCE, (0, 2, 0, 12, False), (0, 3, 0, 17, False)]
        opening = Behavior(2, [], [], [(0, 0)])
        for heard, found in [([(2, 0)], 8), ([(3, 0)], 13), ([(2, 0), (3, 0)], 13), ([(2, 0), (3, 1)], 8),
                             ([(0, 0)], -4), ([(1, 0)], 0), ([(0, 0), (1, 0), (2, 0)], 8)]:
            self.assert_both(Behavior(4, links, heard, []), opening, found, max(0, found))

    def test_each_port_with_its_own_openers(self):
        links = [ONCE, (0, 2, 0, 12, False), (0, 3, 0, 17, False)]
        hearing = Behavior(4, links, [(2, 0), (3, 20)], [])
        opening = Behavior(3, [(0, 2, 10, 10, False)], [], [(0, 0), (2, 20)])
        self.assert_both(hearing, opening, 8, 8)
        self.assert_both(hearing, Behavior(3, [(0, 2, 10, 10, False)], [], [(2, 0), (0, 20)]), 13, 13)

    def test_ports_of_the_others_do_not_count(self):
        # It is the earlier one that hears, and the later one that opens.
        hearing = Behavior(3, [ONCE, (0, 2, 1, 30, False)], [(2, 5)], [(0, 6), (0, 5)])
        self.assert_both(hearing, Behavior(2, [ONCE], [(0, 5)], [(0, 6)]), "never", 0)

    def test_never(self):
        opening = Behavior(2, [], [], [(0, 0)])
        self.assert_both(linked(2, ONCE), opening, "never", 0)
        self.assert_both(made(4, 6), Behavior(2, [], [], []), "never", 0)
        self.assert_both(made(4, 6), Behavior(2, [], [], [(0, 1)]), "never", 0)
        # No release, no occurrence of what is heard, no occurrence of what opens.
        self.assert_both(Behavior(3, [(0, 2, 0, None, True)], [(2, 0)], []), opening, "never", 0)
        self.assert_both(Behavior(3, [ONCE, (2, 2, 1, None, True)], [(2, 0)], []), opening, "never", 0)
        self.assert_both(made(4, 6), Behavior(3, [(2, 2, 0, 0, True)], [], [(2, 0)]), "never", 0)

    def test_endless(self):
        opening = Behavior(3, [(0, 2, 10 ** 39, None, False)], [], [(2, 0)])
        for links in [
            [ONCE, (0, 2, 0, None, False)], [ONCE, (1, 2, 3, None, False)],
            [ONCE, (0, 2, 0, 0, False), (2, 2, 0, 1, False)], [ONCE, (0, 2, 1, 1, False), (2, 2, 1, 1, True)],
        ]:
            self.assert_both(Behavior(3, links, [(2, 0)], []), opening, "endless", "endless")
            self.assert_both(Behavior(3, links, [(0, 0), (2, 0)], []), opening, "endless", "endless")
            # The other port is heard in time.
            self.assert_both(Behavior(3, links, [(0, 0), (2, 1)], []), opening, -4 - 10 ** 39, 0)

    def test_endless_only_if_the_opener_can_occur(self):
        hearing = Behavior(3, [ONCE, (0, 2, 0, None, False)], [(2, 0), (1, 1)], [])
        self.assert_both(hearing, Behavior(3, [(2, 1, 0, 0, False)], [], [(2, 0)]), "never", 0)
        self.assert_both(hearing, Behavior(3, [(2, 1, 0, 0, False)], [], [(2, 0), (0, 1)]), 0, 0)
        self.assert_both(hearing, Behavior(3, [(2, 1, 0, 0, False)], [], [(2, 0), (0, 0)]), "endless", "endless")

    def test_long_numbers(self):
        high = 10 ** 40 - 1
        hearing = Behavior(3, [(0, 1, 0, 0, False), (0, 2, 0, high, False)], [(2, 0)], [])
        self.assert_both(hearing, Behavior(2, [], [], [(0, 0)]), high, high)
        self.assert_both(hearing, Behavior(3, [(0, 2, high, high, True)], [], [(2, 0)]), 0, 0)
        self.assert_both(hearing, Behavior(3, [(0, 2, high - 1, high, True)], [], [(2, 0)]), 1, 1)

    def test_words_of_the_document(self):
        for earlier, later in some_pairs(300, 6, 12, 31):
            late, first = lateness(earlier), earliest(later)
            rows = [(late[f], first[o]) for f, port in earlier.heard for o, other in later.opens if port == other]
            rows = [row for row in rows if "never" not in row]
            if any(row[0] == "endless" for row in rows):
                self.assert_both(earlier, later, "endless", "endless")
            elif rows:
                found = max(row[0] - row[1] for row in rows)
                self.assert_both(earlier, later, found, max(0, found))
            else:
                self.assert_both(earlier, later, "never", 0)

    def test_no_short_run_is_misdelivered(self):
        for earlier, later in some_pairs(100, 3, 4, 30):
            harm, wait = greatest_harm(earlier, later, 4), least_wait(earlier, later)
            if harm is not None and harm > FAR // 2:
                self.assertEqual(wait, "endless", (earlier.links, later.links))
            elif harm is not None and wait != "endless":
                self.assertLessEqual(harm, wait, (earlier.links, later.links))

    def test_some_run_is_misdelivered_below(self):
        for earlier, later in some_pairs(60, 3, 3, 32):
            harm, wait = greatest_harm(earlier, later, 6), least_wait(earlier, later)
            if wait not in (0, "endless"):
                self.assertEqual(harm, wait, (earlier.links, later.links))


if __name__ == "__main__":
    unittest.main()
