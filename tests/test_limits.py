import unittest

from reissue.behaviors import Behavior, is_run
from reissue.certificates import certificate, check_certificate
from reissue.rules import Rule, above, is_safe, staircase, turns_for, wait_for
from reissue.times import earliest, lateness
from reissue.traces import check_trace, trace
from reissue.waits import excess, least_wait

from shapes import HIGH, PORTS, Timed, forty, itself, ring, row, slow_ones


class Point3(Timed):
    def test_all_shapes_in_time(self):
        for shape in [row, ring, itself]:
            for least, most in [(0, 0), (0, 1), (1, 1), (HIGH, HIGH), (0, HIGH), (0, None), (HIGH, None)]:
                for many in [False, True]:
                    for turn in [1, -1]:
                        links = shape(least, most, many)[::turn]
                        behavior = self.in_time(Behavior, 30, links, PORTS, PORTS[::-1])
                        self.assertEqual(len(self.in_time(earliest, behavior)), 30)
                        self.assertEqual(len(self.in_time(lateness, behavior)), 30)
                        self.assertTrue(self.in_time(lambda one: one == one and 20 in one and 21 not in one, behavior))

    def test_many_latenesses_in_time(self):
        for behavior, late in zip(slow_ones(), [29 * 8 - 2, "endless", "endless"]):
            found = self.in_time(lambda one: [lateness(one) for _ in range(1600)], behavior)
            self.assertEqual([len(found), found[0][29]], [1600, late])

    def test_waits_of_40_names_in_time(self):
        behaviors = forty()
        self.assertEqual(len(behaviors), 40)
        found = self.in_time(lambda: [excess(one, other) for one in behaviors for other in behaviors])
        self.assertEqual(len(found), 1600)
        waits = self.in_time(lambda: [least_wait(one, other) for one in behaviors for other in behaviors])
        self.assertIn("endless", waits)
        self.assertIn(0, waits)

    def test_traces_and_certificates_in_time(self):
        behaviors = forty()[::3]
        pairs = [(one, other) for one in behaviors for other in behaviors]
        for wait in [0, HIGH]:
            traces = self.in_time(lambda: [trace(*pair, wait) for pair in pairs])
            shown = self.in_time(lambda: [certificate(*pair, wait) for pair in pairs])
            self.in_time(self.check_all, pairs, wait, traces, shown)

    def check_all(self, pairs, wait, traces, shown):
        for pair, one, other in zip(pairs, traces, shown):
            self.assertIs(check_trace(*pair, wait, one), one is not None)
            self.assertIs(check_certificate(*pair, wait, other), one is None)

    def test_told_walks_are_within_the_limits(self):
        for behavior in forty():
            claim = trace(behavior, behavior, HIGH)
            for walk in [] if claim is None else claim[:4]:
                self.assertLessEqual(len(walk), 60)
                self.assertLessEqual(max([len(steps) for steps, _ in walk], default=0), 60)

    def test_long_walks(self):
        ring_of_20 = [(at, at + 1 if at < 21 else 2, 0, HIGH, True) for at in range(2, 22)]
        behavior = Behavior(30, [(0, 1, HIGH, HIGH, False), (0, 2, 0, 0, False), *ring_of_20], [(2, 20)], [(0, 20)])
        steps = [(link, HIGH) for link in range(2, 22)] * 3
        late, early = [([(1, 0)], 1), *[(steps, HIGH)] * 59], [([(0, HIGH)], 1)]
        self.assertEqual((len(late), len(steps)), (60, 60))
        wait = 59 * HIGH * 60 * HIGH - HIGH
        for more, good in [(0, False), (-1, True)]:
            told = self.in_time(check_trace, behavior, behavior, wait + more, ([], late, early, [], 20))
            self.assertIs(told, good)
        for last in [(steps[:-1], HIGH), (steps[1:], HIGH), ([*steps[:-1], (21, HIGH + 1)], HIGH), (steps, 0)]:
            self.assertIs(check_trace(behavior, behavior, 0, ([], [*late[:-1], last], early, [], 20)), False)

    def test_rules_in_time(self):
        for behavior in forty():
            wait, turns = self.in_time(wait_for, behavior, 60), self.in_time(turns_for, behavior, 1)
            self.assertEqual(self.in_time(is_safe, behavior, Rule(HIGH, HIGH)), wait != "endless")
            self.assertEqual(wait == "endless", turns == "endless")
            self.assertEqual(len(self.in_time(staircase, behavior, 60)) == 0, wait == "endless")

    def test_rules_above_in_time(self):
        rules = [Rule(10000 // turns, turns) for turns in range(1, 20)]
        for more in [Rule(0, HIGH), Rule(0), Rule(9973)]:
            for _ in range(20):
                self.assertTrue(self.in_time(above, [*rules, more]))

    def test_row(self):
        behavior = Behavior(30, row(1, HIGH, False), [], [])
        self.assertEqual(earliest(behavior), list(range(30)))
        late = [event * HIGH - 1 for event in range(30)]
        self.assertEqual(lateness(behavior), [-1, HIGH - 1, *late[2:]])

    def test_row_of_delays_of_0(self):
        behavior = Behavior(30, row(0, 0, True), [], [])
        self.assertEqual([earliest(behavior), lateness(behavior)], [[0] * 30, [0] * 30])

    def test_row_without_an_end(self):
        behavior = Behavior(30, row(0, None, False), [], [])
        self.assertEqual(lateness(behavior), [0] + ["endless"] * 29)

    def test_rings(self):
        for most, late in [(0, 0), (1, "endless"), (HIGH, "endless"), (None, "endless")]:
            behavior = Behavior(30, ring(0, most, False), [], [])
            self.assertEqual(earliest(behavior), [0] * 30)
            self.assertEqual(lateness(behavior), [0] + [late] * 29)

    def test_slow_ring(self):
        # One link of the ring has a delay, and the links stand against their order, also those behind the ring.
        turns = [(event, event + 1 if event < 15 else 2, 0, int(event == 2), False) for event in range(2, 16)]
        behind = [(event, event + 1, 0, 0, False) for event in range(15, 29)]
        links = [(0, 1, 5, 5, False), (0, 2, 0, 0, False), *turns, *behind]
        for rows in [links, links[::-1]]:
            self.assertEqual(lateness(Behavior(30, rows, [], [])), [-5, 0] + ["endless"] * 28)

    def test_long_way_round(self):
        # The release stands at the end of all other events, the links against their order.
        order = [0, *range(2, 30), 1]
        links = [(a, b, HIGH, HIGH, False) for a, b in zip(order, order[1:])][::-1]
        behavior = Behavior(30, links, [], [])
        self.assertEqual(earliest(behavior), [0, 29 * HIGH, *[turn * HIGH for turn in range(1, 29)]])
        self.assertEqual(lateness(behavior), [-29 * HIGH, 0, *[-turn * HIGH for turn in range(28, 0, -1)]])

    def test_all_links_of_one_event(self):
        links = [(0, turn % 29 + 1, turn, HIGH, turn % 2 == 0) for turn in range(60)]
        behavior = Behavior(30, links, [], [])
        self.assertEqual(self.in_time(earliest, behavior), [0, *range(29)])
        self.assertEqual(self.in_time(lateness, behavior), [0] + [HIGH] * 29)

    def test_long_runs(self):
        behavior = Behavior(2, [(0, 1, 0, None, True), (1, 1, 0, HIGH, False), (1, 1, 1, 1, True)], [], [])
        chain = [(0, None, None, 0), (1, 0, 0, 0), *[(1, at, 1, at * HIGH) for at in range(1, 199)]]
        fan = [(0, None, None, 0), *[(1, 0, 0, HIGH)] * 199]
        for run in [chain, fan]:
            self.assertEqual(len(run), 200)
            self.assertIs(self.in_time(is_run, behavior, run), True)
            self.assertIs(self.in_time(is_run, behavior, [*run, (1, 200, 1, 0)]), False)
            self.assertIs(self.in_time(is_run, behavior, [*run, None]), False)
        self.assertIs(is_run(behavior, [*chain[:-1], (1, 198, 1, 198 * HIGH + 1)]), False)
        self.assertIs(is_run(behavior, [*chain, (1, 150, 1, 149 * HIGH)]), False)

    def test_somewhat_beyond(self):
        links = [(event, event + 1, 1, 2, True) for event in range(39) for _ in range(2)]
        behavior = self.in_time(Behavior, 40, links, [(39, 10 ** 45)], [])
        self.assertEqual(self.in_time(earliest, behavior), list(range(40)))
        self.assertEqual(self.in_time(lateness, behavior)[39], 2 * 39 - 1)
        self.assertIn(10 ** 45, behavior)


if __name__ == "__main__":
    unittest.main()
