import unittest

from reissue.behaviors import Behavior
from reissue.changes import apart, check_apart, quiet, slack, tight_links
from reissue.errors import InvalidList, NoneFree, NothingToUndo
from reissue.kinds import are_safe, bad_row, check_bad_row, least_entry
from reissue.library import Library
from reissue.pools import Pool, gap, gap_of, size_for, worst_schedule
from reissue.times import earliest
from reissue.traces import check_trace, trace
from reissue.waits import least_wait

from shapes import HIGH, PORTS, Timed, forty, row

NAMES = ["".join([first, second]) for first in "abcdefgh" for second in "vwxyz"]


def finite():
    """Return those of 40 behaviors at the limits after which some wait is safe, and has to be above 0."""
    return [one for one in forty() if least_wait(one, one) not in (0, "endless")]


def rings_of_20(turn):
    """Return a behavior at the limits with a ring that takes a delay only where its links number `turn` are."""
    ring = [(at, at + 1 if at < 29 else 2, 0, int(at % 20 == turn), True) for at in range(2, 30)]
    back = [(at, 2, 0, 0, False) for at in range(2, 30)]
    return Behavior(30, [(0, 1, 9, None, True), (0, 2, 0, 0, False), *ring, *back], PORTS, PORTS)


class Kinds(Timed):
    def eight(self):
        """Return lists of 8 kinds at the limits."""
        behaviors = forty()
        return [[*behaviors[at::5]][:8] for at in range(5)] + [(finite() * 8)[:8]]

    def test_all_answers(self):
        for behaviors in self.eight():
            for wait in [0, 1, HIGH]:
                waits = [[wait] * 8 for _ in range(8)]
                safe = self.in_time(are_safe, behaviors, waits)
                told = self.in_time(bad_row, behaviors, waits)
                self.assertIs(told is None, safe)
                self.assertIs(self.in_time(check_bad_row, behaviors, waits, told), not safe)
                pairs = [(i, j) for i in range(8) for j in range(8)]
                entries = self.in_time(lambda: [least_entry(behaviors, waits, *pair) for pair in pairs])
                self.assertEqual(len(entries), 64)

    def test_safe_ones(self):
        behaviors = (finite() * 8)[:8]
        needs = [[least_wait(one, other) for other in behaviors] for one in behaviors]
        most = max(max(needs))
        waits = [[most] * 8 for _ in range(8)]
        self.assertIs(self.in_time(are_safe, behaviors, waits), True)
        for i in range(8):
            told = self.in_time(least_entry, behaviors, waits, i, 7 - i)
            self.assertEqual(told, needs[i][7 - i])

    def test_traces_that_go_round_often(self):
        behaviors = [rings_of_20(turn) for turn in range(8)]
        waits = [[HIGH] * 8 for _ in range(8)]
        self.assertIs(self.in_time(are_safe, behaviors, waits), False)
        told = self.in_time(bad_row, behaviors, waits)
        self.assertIs(self.in_time(check_bad_row, behaviors, waits, told), True)
        for walk in told[1][:4]:
            self.assertLessEqual(len(walk), 60)
            self.assertLessEqual(max([len(steps) for steps, _ in walk], default=0), 60)

    def test_lists_of_60_kinds(self):
        behaviors = [rings_of_20(turn) for turn in range(8)]
        waits = [[HIGH - 7 * i - j for j in range(8)] for i in range(8)]
        kinds = [(at * at) % 8 for at in range(60)]
        rest = sum(waits[one][other] for one, other in zip(kinds, kinds[1:]))
        rest += sum(earliest(behaviors[kind])[1] for kind in kinds[1:-1])
        shown = self.in_time(trace, behaviors[kinds[0]], behaviors[kinds[-1]], rest)
        self.assertIs(self.in_time(check_bad_row, behaviors, waits, (kinds, shown)), True)
        self.assertIs(self.in_time(check_bad_row, behaviors, waits, (kinds * 9, shown)), False)
        tight = trace(behaviors[0], behaviors[0], 0)
        self.assertIs(check_bad_row(behaviors, waits, ([0] * 60, tight)), False)
        self.assertIs(check_bad_row(behaviors, [[0] * 8] * 8, ([0] * 2, tight)), True)


class Pools(Timed):
    def test_schedules(self):
        for holders in [1, 2, 3, 29, 30, 59, 60]:
            for pace in [0, 1, HIGH]:
                for lifetime in [0, 1, HIGH]:
                    rows = self.in_time(worst_schedule, 60, holders, pace, lifetime)
                    self.assertLessEqual(len(rows), 400)
                    told = self.in_time(gap_of, 60, holders, pace, lifetime, rows)
                    self.assertEqual(told, gap(60, holders, pace, lifetime))

    def test_400_rows(self):
        rows = []
        for at in range(200):
            rows += [(at * HIGH, "issue", at % 60), (at * HIGH + 7, "release", at % 60)]
        self.assertEqual(self.in_time(gap_of, 60, 1, HIGH, 7, rows), 60 * HIGH - 7)
        with self.assertRaises(InvalidList):
            self.in_time(gap_of, 60, 1, HIGH, 8, rows)
        with self.assertRaises(InvalidList):
            self.in_time(gap_of, 60, 1, HIGH, 7, [*rows, None])

    def test_sizes_of_40_digits(self):
        for size, holders in [(HIGH, 1), (HIGH, 60), (HIGH, HIGH // 2), (HIGH, HIGH)]:
            for pace in [0, 1, HIGH]:
                for lifetime in [0, 1, HIGH]:
                    self.assertGreaterEqual(self.in_time(gap, size, holders, pace, lifetime), 0)
                    with self.assertRaises(InvalidList):
                        self.in_time(gap_of, size, holders, pace, lifetime, [None])
                    self.assertIsNone(self.in_time(gap_of, size, holders, pace, lifetime, [(0, "issue", 0)]))

    def test_size_for(self):
        for behavior in forty():
            for holders in [1, 7, 60]:
                for pace in [0, 1, HIGH]:
                    told = self.in_time(size_for, behavior, holders, pace, 0)
                    life, needed = earliest(behavior)[1], least_wait(behavior, behavior)
                    if told != "endless":
                        self.assertTrue(needed == 0 or gap(told, holders, pace, life) >= needed)
                        if told > holders:
                            self.assertLess(gap(told - 1, holders, pace, life), needed)
                    else:
                        self.assertTrue(needed == "endless" or life == pace == 0)

    def test_all_are_out_at_once(self):
        for order in ["oldest", "newest", "lowest"]:
            pool = Pool(60, order=order, wait=HIGH)
            self.assertEqual(self.in_time(lambda one: [one.issue(-HIGH) for _ in range(60)], pool), list(range(60)))
            with self.assertRaises(NoneFree):
                pool.issue(HIGH)
            for number in range(59, -1, -1):
                pool.release(number, HIGH - number)
            self.assertEqual((len(pool), pool.free()), (60, list(range(60))))
            with self.assertRaises(NoneFree):
                pool.issue(HIGH)
            told = self.in_time(lambda one: [one.issue(2 * HIGH) for _ in range(60)], pool)
            self.assertEqual(told, list(range(59, -1, -1)) if order == "oldest" else list(range(60)))


class Changes(Timed):
    def test_quiet(self):
        behaviors = forty()
        found = self.in_time(lambda: [quiet(one, other) for one in behaviors for other in behaviors])
        self.assertTrue({0, "endless"} < set(found))

    def test_slack(self):
        for behavior in forty()[::2]:
            links = self.in_time(tight_links, behavior, behavior)
            wait = least_wait(behavior, behavior)
            self.assertEqual(links is None, wait == "endless")
            if links is not None:
                for more in [0, HIGH]:
                    all_links = range(len(behavior.links))
                    told = self.in_time(lambda: [slack(behavior, behavior, wait + more, link) for link in all_links])
                    self.assertEqual(more == 0 and 0 in told, more == 0 and links != [])

    def test_apart(self):
        behaviors = forty()
        pairs = [(one, other) for one in behaviors[::3] for other in behaviors]
        found = self.in_time(lambda: [apart(*pair) for pair in pairs])
        for pair, told in zip(pairs, found):
            self.assertIs(check_apart(*pair, told), told is not None)
        self.assertIn(None, found)

    def test_long_times(self):
        one = Behavior(30, row(HIGH, HIGH, False), PORTS, PORTS)
        other = Behavior(30, row(HIGH, HIGH, False), PORTS, [(29, port) for port in range(21)])
        third, word = self.in_time(apart, one, other)
        self.assertEqual(word, "later")
        self.assertIs(check_apart(one, other, (third, word)), True)
        self.assertIs(check_trace(third, other, HIGH, trace(third, other, HIGH)), least_wait(third, other) > HIGH)


class Libraries(Timed):
    def full(self):
        kept = Library()
        for name, behavior in zip(NAMES, forty()):
            kept.put(name, behavior)
        return kept

    def test_waits_of_40_names(self):
        kept = self.full()
        self.assertEqual(len(kept), 40)
        waits = self.in_time(kept.waits)
        self.assertEqual(len(waits), 1600)
        self.assertEqual(self.in_time(kept.common_wait), "endless")
        behaviors = forty()
        for one in range(0, 40, 7):
            for other in range(40):
                told = waits[NAMES[one], NAMES[other]]
                self.assertEqual(told, least_wait(behaviors[one], behaviors[other]))
                self.assertEqual(kept.wait_between(NAMES[one], NAMES[other]), told)

    def test_common_wait(self):
        kept = Library()
        for name, behavior in zip(NAMES, finite() * 40):
            kept.put(name, behavior)
        told = self.in_time(kept.common_wait)
        self.assertEqual(told, max(self.in_time(kept.waits).values()))
        self.assertGreater(told, 0)

    def test_many_steps(self):
        kept = self.full()
        behaviors = forty()
        for turn in range(25):
            for at, name in enumerate(NAMES):
                kept.change(name, behaviors[(at + turn) % 40])
        self.assertEqual(len(kept.log()), 1040)
        other = self.in_time(kept.copy)
        self.assertIs(self.in_time(lambda: other == kept), True)
        self.in_time(self.go_back, other, 1000)
        self.assertIs(self.in_time(lambda: other == self.full()), True)
        self.in_time(self.go_back, other, 40)
        with self.assertRaises(NothingToUndo):
            other.back()
        self.assertEqual((len(other), len(kept)), (0, 40))

    def go_back(self, kept, often):
        for _ in range(often):
            kept.back()


if __name__ == "__main__":
    unittest.main()
