import unittest

from reissue.behaviors import is_run
from reissue.errors import InvalidBehavior
from reissue.times import earliest, lateness

from reckoning import FAR, lateness_of_walks, runs, times_of_runs
from samples import linked, ping, session, some_behaviors, values_but_behaviors


class Example(unittest.TestCase):
    def test_ping(self):
        self.assertEqual([earliest(ping()), lateness(ping())], [[0, 4, 1, 3], [-4, 0, "endless", "endless"]])

    def test_session(self):
        self.assertEqual([earliest(session()), lateness(session())], [[0, 10, 5], [-10, 0, 80]])


class Both(unittest.TestCase):
    def test_by_name(self):
        self.assertEqual(earliest(behavior=ping()), earliest(ping()))
        self.assertEqual(lateness(behavior=ping()), lateness(ping()))

    def test_no_behavior(self):
        for value in values_but_behaviors():
            for function in [earliest, lateness]:
                with self.assertRaises(InvalidBehavior) as caught:
                    function(value)
                self.assertIs(caught.exception.value, value)

    def test_new_lists_and_unchanged_behavior(self):
        for function in [earliest, lateness]:
            for behavior, made in [(ping(), ping), (linked(2), lambda: linked(2))]:
                first = function(behavior)
                kept = list(first)
                self.assertIs(first.__class__, list)
                first[0] = "changed"
                first.append(0)
                self.assertEqual(function(behavior), kept)
                self.assertEqual(behavior, made())


class Point20(unittest.TestCase):
    def test_no_links(self):
        self.assertEqual(earliest(linked(3)), [0, "never", "never"])

    def test_least_of_several_ways(self):
        behavior = linked(4, (0, 1, 9, 9, False), (0, 2, 4, None, False), (2, 3, 0, 1, True), (3, 1, 4, 4, True))
        self.assertEqual(earliest(behavior), [0, 8, 4, 4])
        self.assertEqual(earliest(linked(2, (0, 1, 7, 9, False), (0, 1, 6, 20, False))), [0, 6])

    def test_more_links_may_be_less(self):
        behavior = linked(5, (0, 1, 10, 10, False), (0, 4, 1, 1, False), (4, 3, 1, 1, False), (3, 2, 1, 1, False),
                          (2, 1, 1, 1, False))
        self.assertEqual(earliest(behavior), [0, 4, 3, 2, 1])

    def test_order_of_links_does_not_matter(self):
        links = [(k, k + 1, k, None, False) for k in range(8)]
        for rows in [links, links[::-1], links[4:] + links[:4]]:
            self.assertEqual(earliest(linked(9, *rows)), [0, 0, 1, 3, 6, 10, 15, 21, 28])

    def test_events_that_no_run_has(self):
        behavior = linked(5, (2, 3, 0, 0, True), (3, 2, 0, 0, True), (3, 1, 1, 1, True), (0, 4, 2, 2, True),
                          (2, 4, 0, 0, True), (1, 1, 0, 0, True))
        self.assertEqual(earliest(behavior), [0, "never", "never", "never", 2])

    def test_rings(self):
        behavior = linked(4, (0, 2, 3, 3, False), (2, 3, 0, 5, False), (3, 2, 0, 5, False), (2, 2, 1, 1, True),
                          (3, 1, 2, 2, False))
        self.assertEqual(earliest(behavior), [0, 5, 3, 3])

    def test_against_all_short_runs(self):
        for behavior in some_behaviors(150, 4, 4, 20):
            first, _ = times_of_runs(behavior, 4)
            self.assertEqual(earliest(behavior), ["never" if time is None else time for time in first], behavior.links)


class Point21And22(unittest.TestCase):
    def test_release_that_no_run_has(self):
        self.assertEqual(lateness(linked(2)), ["never", "never"])
        self.assertEqual(lateness(linked(3, (0, 2, 1, None, True), (1, 2, 0, 0, True))), ["never"] * 3)
        self.assertEqual(lateness(linked(3, (1, 1, 0, 0, True), (2, 1, 0, 0, True))), ["never"] * 3)

    def test_events_that_no_run_has(self):
        behavior = linked(5, (0, 1, 2, 3, False), (2, 3, 0, None, True), (3, 1, 0, 0, True), (3, 4, 0, 0, True))
        self.assertEqual(lateness(behavior), [-2, 0, "never", "never", "never"])

    def test_before_the_release_only(self):
        behavior = linked(4, (0, 2, 1, 2, False), (2, 3, 3, 9, False), (3, 1, 5, None, True))
        self.assertEqual(lateness(behavior)[0], -9)
        self.assertEqual(lateness(behavior)[2:], [-8, -5])

    def test_least_way_to_the_release(self):
        behavior = linked(3, (0, 2, 1, 1, False), (2, 1, 7, 7, False), (0, 1, 20, 20, False))
        self.assertEqual(lateness(behavior)[0], -8)

    def test_behind_the_release(self):
        behavior = linked(4, (0, 1, 10, 50, False), (1, 2, 1, 6, False), (2, 3, 0, 7, False), (1, 3, 0, 12, False))
        self.assertEqual(lateness(behavior), [-10, 0, 6, 13])

    def test_issue_at_once_with_the_release(self):
        self.assertEqual(lateness(linked(2, (0, 1, 0, 4, False))), [0, 0])

    def test_beside_the_release(self):
        behavior = linked(3, (0, 1, 10, None, False), (0, 2, 5, 90, False))
        self.assertEqual(lateness(behavior), [-10, 0, 80])
        behavior = linked(3, (0, 1, 100, None, False), (0, 2, 5, 90, False))
        self.assertEqual(lateness(behavior), [-100, 0, -10])

    def test_first_release_counts(self):
        behavior = linked(2, (0, 1, 3, 8, False), (0, 1, 5, 20, False))
        self.assertEqual(lateness(behavior), [-3, 17])
        self.assertEqual(lateness(linked(2, (0, 1, 3, 8, False))), [-3, 0])
        self.assertEqual(lateness(linked(2, (0, 1, 3, 8, True))), [-3, 5])
        self.assertEqual(lateness(linked(2, (0, 1, 3, None, True))), [-3, "endless"])

    def test_one_link_as_the_first_of_both_walks(self):
        for many, late in [(False, 6), (True, 12)]:
            behavior = linked(4, (0, 2, 1, 7, many), (2, 1, 2, 2, False), (2, 3, 0, 8, False))
            self.assertEqual(lateness(behavior)[3], late)

    def test_one_link_again_behind_another_cause(self):
        # The link from 2 to 3 is not many, but two occurrences of 2 have it once each.
        behavior = linked(4, (0, 2, 0, 5, True), (2, 3, 1, 2, False), (3, 1, 1, 4, False))
        self.assertEqual(lateness(behavior), [-2, 9, 3, 5])

    def test_a_link_twice_is_two_links(self):
        once = [(0, 2, 1, 7, False), (2, 1, 2, 2, False), (2, 3, 0, 8, False)]
        self.assertEqual(lateness(linked(4, *once)), [-3, 0, -2, 6])
        self.assertEqual(lateness(linked(4, *once, once[0])), [-3, 6, 4, 12])

    def test_common_cause_that_no_run_has(self):
        behavior = linked(4, (0, 1, 1, 1, False), (0, 3, 2, 2, False), (2, 3, 0, 90, True), (2, 1, 0, 0, True))
        self.assertEqual(lateness(behavior), [-1, 0, "never", 1])

    def test_no_upper_end(self):
        behavior = linked(5, (0, 1, 1, None, False), (0, 2, 1, 5, False), (1, 3, 0, None, False), (3, 4, 0, 0, False))
        self.assertEqual(lateness(behavior), [-1, 0, 4, "endless", "endless"])
        late = linked(4, (0, 2, 0, None, False), (2, 1, 3, 3, False), (2, 3, 0, 9, False))
        self.assertEqual(lateness(late), [-3, 0, -3, 6])

    def test_ring_with_a_delay(self):
        behavior = linked(5, (0, 1, 4, 4, False), (0, 2, 0, 0, False), (2, 3, 0, 1, False), (3, 2, 0, 0, False),
                          (1, 4, 0, 0, False))
        self.assertEqual(lateness(behavior), [-4, 0, "endless", "endless", 0])
        self.assertEqual(lateness(linked(2, (0, 1, 4, 4, False), (1, 1, 1, 1, False))), [-4, "endless"])

    def test_ring_without_a_delay(self):
        behavior = linked(5, (0, 1, 4, 4, False), (0, 2, 0, 6, False), (2, 3, 0, 0, True), (3, 2, 0, 0, True),
                          (3, 4, 0, 5, False))
        self.assertEqual(lateness(behavior), [-4, 0, 2, 2, 7])
        self.assertEqual(lateness(linked(2, (0, 1, 4, 4, False), (1, 1, 0, 0, True))), [-4, 0])

    def test_ring_before_the_release(self):
        # A release may come of the first time around while the ring goes on beside it.
        behavior = linked(3, (0, 2, 0, 0, False), (2, 2, 1, 3, False), (2, 1, 2, 2, False))
        self.assertEqual(lateness(behavior), [-2, "endless", "endless"])
        alone = linked(3, (0, 2, 0, 0, False), (2, 2, 0, 0, False), (2, 1, 2, 5, False))
        self.assertEqual(lateness(alone), [-2, 3, -2])

    def test_ring_that_the_event_does_not_lie_behind(self):
        behavior = linked(4, (0, 1, 1, 1, False), (0, 2, 0, 5, False), (2, 3, 0, 9, False), (3, 3, 1, None, True))
        self.assertEqual(lateness(behavior), [-1, 0, 4, "endless"])

    def test_long_numbers(self):
        high = 10 ** 40 - 1
        behavior = linked(4, (0, 1, 1, high, False), (0, 2, 0, high, False), (2, 3, high, high, False))
        self.assertEqual(lateness(behavior), [-1, 0, high - 1, 2 * high - 1])
        self.assertEqual(earliest(behavior), [0, 1, 0, high])

    def test_no_short_run_is_later(self):
        for behavior in some_behaviors(120, 3, 4, 21):
            _, last = times_of_runs(behavior, 5)
            for found, seen in zip(lateness(behavior), last):
                if found == "never":
                    self.assertIsNone(seen, behavior.links)
                elif found != "endless" and seen is not None:
                    self.assertLessEqual(seen, found, behavior.links)
                if seen is not None and seen > FAR // 2:
                    self.assertEqual(found, "endless", behavior.links)

    def test_some_run_is_as_late(self):
        for behavior in some_behaviors(60, 3, 3, 22):
            _, last = times_of_runs(behavior, 6)
            for found, seen in zip(lateness(behavior), last):
                if found not in ("never", "endless"):
                    self.assertEqual(found, seen, behavior.links)

    def test_all_those_runs_are_runs(self):
        for behavior in some_behaviors(30, 3, 3, 23):
            self.assertTrue(all(is_run(behavior, run) for run in runs(behavior, 4)))

    def test_against_walks_of_many_steps(self):
        for behavior in some_behaviors(400, 6, 12, 24):
            self.assertEqual(lateness(behavior), lateness_of_walks(behavior), behavior.links)


if __name__ == "__main__":
    unittest.main()
