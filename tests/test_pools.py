import random
import unittest

from reissue.behaviors import Behavior
from reissue.errors import InvalidBehavior, InvalidList, InvalidNumber
from reissue.pools import Pool, gap, gap_of, size_for, worst_schedule
from reissue.rules import Rule
from reissue.times import earliest
from reissue.waits import least_wait

from samples import linked, made, nested, session, slow, some_behaviors, values_but_behaviors
from schedules import all_schedules, gap_by_rows, least_gap

HIGH = 10 ** 40 - 1
NO_NUMBERS = [-1, -HIGH, True, False, None, "", "1", "endless", [], [1], (1,), {}, session(), Rule(1), nested(50)]
# Small pools: (size, holders, pace, lifetime).
SMALL = [
    (size, holders, pace, lifetime)
    for size in range(1, 5) for holders in range(1, size + 1) for pace in range(3) for lifetime in range(4)
]
MIDDLE = [
    (size, holders, pace, lifetime)
    for size in range(1, 12) for holders in range(1, size + 1) for pace in range(4) for lifetime in range(9)
]


def least_times(count, holders, pace, lifetime):
    """Return the least times of so many issues after all holders released at 0, one by one."""
    found = []
    for turn in range(count):
        time = found[-1] + pace if found else 0
        if turn >= holders:
            time = max(time, found[turn - holders] + lifetime)
        found.append(time)
    return found


class Example(unittest.TestCase):
    def test_pool(self):
        pool = Pool(3, wait=5)
        self.assertEqual((pool.issue(0), pool.issue(1)), (0, 1))
        self.assertIsNone(pool.release(0, 4))
        self.assertEqual([gap(10, 3, 2, 7), gap_of(4, 2, 1, 5, worst_schedule(4, 2, 1, 5))], [16, 5])
        self.assertEqual([pool.issue(6), pool.free(), pool.issue(9)], [2, [0], 0])


class Point60(unittest.TestCase):
    CALLS = [gap, worst_schedule, lambda *rest: gap_of(*rest, [])]

    def assert_number(self, value, *arguments):
        for call in self.CALLS:
            with self.assertRaises(InvalidNumber) as caught:
                call(*arguments)
            self.assertIs(caught.exception.value, value)

    def test_numbers(self):
        for value in NO_NUMBERS:
            self.assert_number(value, 4, value, 1, 1)
            self.assert_number(value, value, 2, 1, 1)
            self.assert_number(value, 4, 2, value, 1)
            self.assert_number(value, 4, 2, 1, value)
        self.assert_number(0, 4, 0, 1, 1)
        self.assert_number(0, 0, 1, 1, 1)

    def test_size_is_at_least_the_holders(self):
        for size, holders in [(1, 2), (3, 4), (3, HIGH), (0, 1), (HIGH - 1, HIGH)]:
            self.assert_number(size, size, holders, 1, 1)
        for size in [1, 2, 60]:
            self.assertEqual(gap(size, size, 1, 1), 0)

    def test_holders_before_size_before_pace_before_lifetime(self):
        for value in NO_NUMBERS:
            self.assert_number(value, "size", value, "pace", "lifetime")
            self.assert_number(value, value, 3, "pace", "lifetime")
            self.assert_number(value, 3, 3, value, "lifetime")
        self.assert_number("holders", 3, "holders", "pace", "lifetime")

    def test_numbers_before_the_schedule(self):
        for arguments, value in [((3, 0, 0, 0), 0), ((2, 3, 0, 0), 2), ((3, 3, -1, 0), -1), ((3, 3, 0, -2), -2)]:
            for schedule in [None, [None], ()]:
                with self.assertRaises(InvalidNumber) as caught:
                    gap_of(*arguments, schedule)
                self.assertEqual(caught.exception.value, value)


class Gap(unittest.TestCase):
    """Point 61: the gap."""

    def test_by_hand(self):
        for arguments, told in [
            ((1, 1, 0, 0), 0), ((1, 1, 5, 9), 0), ((2, 1, 0, 0), 0), ((2, 1, 5, 0), 5), ((2, 1, 0, 9), 9),
            ((2, 1, 5, 9), 9), ((2, 1, 9, 5), 9), ((4, 1, 5, 9), 27), ((60, 60, 5, 9), 0), ((60, 59, 5, 9), 5),
            ((5, 2, 0, 3), 3), ((6, 2, 0, 3), 6), ((5, 2, 1, 3), 4), ((5, 2, 2, 3), 6), ((60, 1, 1, 1), 59),
        ]:
            self.assertEqual(gap(*arguments), told, arguments)

    def test_issue_by_issue(self):
        for size, holders, pace, lifetime in MIDDLE:
            times = least_times(size - holders + 1, holders, pace, lifetime)
            self.assertEqual(gap(size, holders, pace, lifetime), times[-1])

    def test_of_all_schedules_of_small_pools(self):
        for arguments in SMALL:
            told = gap(*arguments)
            self.assertEqual(least_gap(*arguments, told + 2), told, arguments)

    def test_of_some_greater_pools(self):
        for arguments in [(5, 1, 2, 1), (5, 4, 2, 3), (5, 5, 1, 1), (6, 5, 1, 2), (6, 6, 0, 1), (7, 6, 0, 1)]:
            told = gap(*arguments)
            self.assertEqual(least_gap(*arguments, told + 1), told, arguments)

    def test_short_schedules(self):
        for arguments in [(2, 1, 0, 1), (2, 1, 1, 0), (2, 2, 1, 1), (3, 2, 0, 1), (3, 2, 1, 1), (3, 1, 0, 1)]:
            found = [min(gaps) for _, gaps in all_schedules(*arguments, 7, 3) if gaps]
            self.assertEqual(min(found), gap(*arguments), arguments)

    def test_long_numbers(self):
        self.assertEqual(gap(HIGH, 1, 0, 1), HIGH - 1)
        self.assertEqual(gap(HIGH, 1, HIGH, 1), (HIGH - 1) * HIGH)
        self.assertEqual(gap(HIGH, HIGH, HIGH, HIGH), 0)
        self.assertEqual(gap(HIGH, HIGH - 1, HIGH, HIGH), HIGH)
        self.assertEqual(gap(7 * 10 ** 30 + 2, 10 ** 30, 3, 10 ** 35), 6 * 10 ** 35 + 6)
        self.assertEqual(gap(7 * 10 ** 30 + 2, 10 ** 30, 3, 0), 18 * 10 ** 30 + 6)


class SizeFor(unittest.TestCase):
    """Point 61: the least size."""

    def test_by_trying(self):
        for lifetime in range(5):
            for late in range(-lifetime, 12):
                behavior = made(lifetime, late)
                for holders in range(1, 4):
                    for pace in range(4):
                        for wait in [0, 1, 5, 11, 12]:
                            self.assert_least(behavior, holders, pace, wait)

    def assert_least(self, behavior, holders, pace, wait):
        told = size_for(behavior, holders, pace, wait)
        needed, lifetime = least_wait(behavior, behavior), earliest(behavior)[1]
        if lifetime == "never" or needed != "endless" and needed <= wait:
            self.assertEqual(told, holders)
        elif needed == "endless" or pace == lifetime == 0:
            self.assertEqual(told, "endless")
        else:
            size = holders
            while gap(size, holders, pace, lifetime) < needed:
                size += 1
            self.assertEqual(told, size, (lifetime, needed, holders, pace, wait))

    def test_some_behaviors(self):
        for behavior in some_behaviors(300, 5, 9, 61, 2):
            for holders, pace, wait in [(1, 0, 0), (2, 1, 0), (3, 0, 2), (7, 2, 1)]:
                self.assert_least(behavior, holders, pace, wait)

    def test_edges(self):
        endless = Behavior(3, [(0, 1, 4, 4, False), (0, 2, 0, None, False)], [(2, 0)], [(0, 0)])
        self.assertEqual(size_for(endless, 3, 5, HIGH), "endless")
        self.assertEqual(size_for(made(0, 5), 3, 0, 4), "endless")
        self.assertEqual(size_for(made(0, 5), 3, 0, 5), 3)
        self.assertEqual(size_for(made(0, 5), 3, 1, 4), 8)
        self.assertEqual(size_for(made(1, 5), 3, 0, 4), 18)
        self.assertEqual(size_for(made(5, -5), 3, 0, 0), 3)
        never = Behavior(3, [(0, 2, 0, None, False)], [(2, 0)], [(0, 0)])
        for holders in [1, 60, HIGH]:
            self.assertEqual(size_for(never, holders, 0, 0), holders)
            self.assertEqual(size_for(linked(2, (0, 1, 3, 3, False)), holders, 0, 0), holders)

    def test_example(self):
        # The lifetime is 10, and 80 are needed: 8 rounds of 3 more than the 3 that are out.
        self.assertEqual([size_for(session(), 3, 2, wait) for wait in (0, 79, 80)], [27, 27, 3])
        self.assertEqual(size_for(session(), 3, 5, 0), 19)
        self.assertEqual(size_for(slow(), 5, 0, 0), 5)

    def test_long_numbers(self):
        self.assertEqual(size_for(made(1, HIGH), 1, 0, HIGH - 1), HIGH + 1)
        self.assertEqual(size_for(made(0, HIGH), HIGH, 1, 0), 2 * HIGH)
        self.assertEqual(size_for(made(10 ** 35, 6 * 10 ** 35 + 4), 10 ** 30, 3, 0), 7 * 10 ** 30 + 2)
        self.assertEqual(size_for(made(1, HIGH), HIGH, 0, 0), HIGH + HIGH * HIGH)

    def test_errors_in_order(self):
        for value in values_but_behaviors():
            for rest in [(1, 0, 0), (0, -1, -1), (None, None, None)]:
                with self.assertRaises(InvalidBehavior) as caught:
                    size_for(value, *rest)
                self.assertIs(caught.exception.value, value)
        for value in [*NO_NUMBERS, 0]:
            for rest in [(value, 0, 0), (value, -1, -1), (value, "pace", "wait")]:
                self.assert_number(value, *rest)
        for value in NO_NUMBERS:
            for rest in [(1, value, 0), (1, value, "wait"), (1, 0, value), (HIGH, HIGH, value)]:
                self.assert_number(value, *rest)

    def assert_number(self, value, *rest):
        for behavior in [session(), slow()]:
            with self.assertRaises(InvalidNumber) as caught:
                size_for(behavior, *rest)
            self.assertIs(caught.exception.value, value)


class Point62(unittest.TestCase):
    def assert_gap(self, told, schedule, *pool):
        self.assertEqual(gap_by_rows(*pool, schedule), told)
        self.assertEqual(gap_of(*pool, schedule), told)

    def assert_wrong(self, schedule, *pool):
        with self.assertRaises(InvalidList, msg=schedule) as caught:
            gap_of(*pool, schedule)
        self.assertIs(caught.exception.value, schedule)

    def assert_as_judged(self, schedule, *pool):
        told = gap_by_rows(*pool, schedule)
        if told == "wrong":
            self.assert_wrong(schedule, *pool)
        else:
            self.assertEqual(gap_of(*pool, schedule), told)

    def test_schedules_without_a_gap(self):
        for schedule in [
            [], [(0, "issue", 0)], [(-5, "issue", 0)], [(HIGH, "issue", 0), (HIGH + 3, "issue", 1)],
            [(-9, "issue", 0), (-7, "release", 0)], [(-9, "issue", 0), (-6, "issue", 1), (-6, "release", 0)],
            [(0, "issue", 0), (2, "release", 0), (3, "issue", 1), (6, "issue", 2)],
        ]:
            self.assert_gap(None, schedule, 3, 2, 3, 2)

    def test_one_identifier(self):
        rows = [(0, "issue", 0), (4, "release", 0), (9, "issue", 0), (13, "release", 0), (15, "issue", 0)]
        for many, told in [(2, None), (3, 5), (4, 5), (5, 2)]:
            self.assert_gap(told, rows[:many], 1, 1, 0, 4)
        self.assert_gap(2, rows, 1, 1, 6, 4)
        self.assert_wrong(rows, 1, 1, 7, 4)
        self.assert_wrong(rows, 1, 1, 6, 5)

    def test_turns(self):
        self.assert_wrong([(0, "issue", 1)], 3, 3, 0, 0)
        self.assert_wrong([(0, "issue", 0), (1, "release", 0), (2, "issue", 0)], 3, 3, 0, 0)
        self.assert_wrong([(0, "issue", 0), (1, "issue", 2)], 3, 3, 0, 0)
        start = [(0, "issue", 0), (0, "issue", 1), (0, "issue", 2), (1, "release", 2), (1, "release", 0)]
        self.assert_gap(0, [*start, (1, "issue", 2)], 3, 3, 0, 0)
        self.assert_gap(3, [*start, (4, "issue", 2), (5, "issue", 0)], 3, 3, 0, 0)
        self.assert_wrong([*start, (1, "issue", 0)], 3, 3, 0, 0)
        self.assert_wrong([*start, (1, "issue", 1)], 3, 3, 0, 0)
        self.assert_wrong([*start, (4, "issue", 2), (5, "issue", 0), (6, "issue", 1)], 3, 3, 0, 0)

    def test_holders(self):
        for holders, good in [(1, False), (2, False), (3, True), (4, True)]:
            rows = [(0, "issue", 0), (0, "issue", 1), (0, "issue", 2)]
            self.assert_gap(None, rows, 4, holders, 0, 0) if good else self.assert_wrong(rows, 4, holders, 0, 0)

    def test_order_of_rows_at_the_same_time(self):
        rows = [(0, "issue", 0), (3, "release", 0), (3, "issue", 1)]
        self.assert_gap(None, rows, 2, 1, 0, 3)
        self.assert_wrong([rows[0], rows[2], rows[1]], 2, 1, 0, 3)
        self.assert_gap(None, [rows[0], rows[2], rows[1]], 2, 2, 0, 3)

    def test_pace_and_lifetime(self):
        rows = [(0, "issue", 0), (3, "issue", 1), (4, "release", 1), (5, "release", 0), (6, "issue", 2)]
        rows.append((9, "issue", 1))
        for pace in range(6):
            for lifetime in range(4):
                self.assert_as_judged(rows, 3, 2, pace, lifetime)
        self.assert_gap(5, rows, 3, 2, 3, 1)
        self.assert_wrong(rows, 3, 2, 4, 1)
        self.assert_wrong(rows, 3, 2, 3, 2)

    def test_times_fall(self):
        self.assert_wrong([(3, "issue", 0), (2, "issue", 1)], 3, 3, 0, 0)
        self.assert_wrong([(3, "issue", 0), (3, "release", 0), (2, "issue", 1)], 3, 3, 0, 0)
        self.assert_wrong([(3, "issue", 0), (2, "release", 0)], 3, 3, 0, 0)

    def test_other_values(self):
        good = [(0, "issue", 0), (1, "release", 0), (1, "issue", 1), (2, "release", 1), (2, "issue", 0)]
        self.assert_gap(1, good, 2, 1, 0, 0)
        for value in [
            *[one for one in values_but_behaviors() if one != []], session(), Rule(1), tuple(good), [good], good[0],
            {0: good[0]}, [list(row) for row in good], [good[0][:2]], [(*good[0], 0)], [good[0], None], [good[0], ()],
            "issue",
        ]:
            self.assert_wrong(value, 2, 1, 0, 0)
        for at, (time, word, number) in enumerate(good):
            others = [(other, word, number) for other in [True, False, None, str(time), [time], (time,), session()]]
            words = ["", "Issue", "issued", "issue ", None, True, 0, ["issue"], ("issue",), session(), Rule(0), {}]
            others += [(time, other, number) for other in words]
            numbers = [-1, 2, HIGH, True, False, None, str(number), [number], session()]
            others += [(time, word, other) for other in numbers]
            for row in others:
                self.assert_wrong([*good[:at], row, *good[at + 1:]], 2, 1, 0, 0)

    def test_all_short_schedules(self):
        for arguments in [(1, 1, 1, 1), (2, 1, 0, 1), (2, 2, 1, 0), (3, 2, 1, 1)]:
            for schedule, gaps in all_schedules(*arguments, 5, 3):
                self.assertEqual(gap_of(*arguments, schedule), min(gaps, default=None))

    def test_one_row_changed(self):
        chance = random.Random(62)
        for pool in chance.sample(SMALL, 40) + chance.sample(MIDDLE, 40):
            rows = worst_schedule(*pool)
            self.assert_as_judged(rows, *pool)
            for _ in range(60):
                self.assert_as_judged(changed(chance, rows, pool[0]), *pool)

    def test_other_pools(self):
        chance = random.Random(63)
        for _ in range(400):
            self.assert_as_judged(worst_schedule(*chance.choice(SMALL)), *chance.choice(SMALL))

    def test_long_schedules(self):
        rows = [row for at in range(200) for row in [(at, "issue", at % 60), (at, "release", at % 60)]]
        self.assert_gap(60, rows, 60, 1, 1, 0)
        self.assert_wrong([*rows, (200, "issue", 19)], 60, 1, 1, 0)
        self.assert_gap(60, [*rows, (200, "issue", 20)], 60, 1, 1, 0)

    def test_nothing_is_changed(self):
        rows = worst_schedule(4, 2, 1, 5)
        before = list(rows)
        self.assertEqual([gap_of(4, 2, 1, 5, rows), gap_of(4, 2, 1, 5, rows)], [5, 5])
        self.assertEqual(rows, before)


class Worst(unittest.TestCase):
    """Point 62: the schedule with the least gap."""

    def test_has_the_least_gap(self):
        for pool in MIDDLE:
            rows = worst_schedule(*pool)
            self.assertEqual(gap_of(*pool, rows), gap(*pool), pool)
            self.assertEqual(gap_by_rows(*pool, rows), gap(*pool), pool)

    def test_great_pools(self):
        for holders in [1, 2, 7, 29, 30, 31, 59, 60]:
            for pace in [0, 1, 10, HIGH]:
                for lifetime in [0, 1, 25, HIGH]:
                    rows = worst_schedule(60, holders, pace, lifetime)
                    self.assertLessEqual(len(rows), 400)
                    self.assertEqual(gap_of(60, holders, pace, lifetime, rows), gap(60, holders, pace, lifetime))

    def test_short(self):
        for pool in MIDDLE:
            self.assertLessEqual(len(worst_schedule(*pool)), 400)

    def test_is_new(self):
        first = worst_schedule(4, 2, 1, 5)
        self.assertEqual({row.__class__ for row in first}, {tuple})
        first.clear()
        self.assertEqual(gap_of(4, 2, 1, 5, worst_schedule(4, 2, 1, 5)), 5)


def changed(chance, rows, size):
    """Return rows in which one is changed, left out, put twice or exchanged with another one."""
    rows = list(rows)
    at, to = chance.randrange(len(rows)), chance.randrange(len(rows))
    time, word, number = rows[at]
    way = chance.randrange(7)
    if way == 0:
        del rows[at]
    elif way == 1:
        rows.insert(at, rows[at])
    elif way == 2:
        rows[at], rows[to] = rows[to], rows[at]
    elif way == 3:
        rows[at] = (time + chance.choice([-2, -1, 1, 2]), word, number)
    elif way == 4:
        rows[at] = (time, "release" if word == "issue" else "issue", number)
    elif way == 5:
        rows[at] = (time, word, chance.randrange(size + 1))
    else:
        rows = rows[:at] + [(one + 1, other, last) for one, other, last in rows[at:]]
    return rows


if __name__ == "__main__":
    unittest.main()
