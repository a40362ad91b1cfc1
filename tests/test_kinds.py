import random
import unittest

from reissue.behaviors import Behavior
from reissue.errors import InvalidList, InvalidNumber
from reissue.kinds import are_safe, bad_row, check_bad_row, least_entry
from reissue.rules import Rule
from reissue.times import earliest
from reissue.traces import trace
from reissue.waits import least_wait

from chains import are_safe_chains, bad_chains, entry_found_by_trying, is_bad_row, rest_along
from samples import linked, made, nested, session, slow, some_behaviors, values_but_behaviors

HIGH = 10 ** 40 - 1
NO_INDEXES = [-1, -HIGH, 2, 3, HIGH, True, False, None, "", "0", [], [0], (0,), {}, session(), Rule(0), nested(50)]


def endless():
    """Return a behavior for which no wait is safe."""
    return Behavior(3, [(0, 1, 4, 4, False), (0, 2, 0, None, False)], [(2, 0)], [(0, 0)])


def unending():
    """Return a behavior without a release, which opens the port that the others hear."""
    return Behavior(3, [(0, 2, 0, None, True)], [(2, 0), (0, 0)], [(0, 0)])


def passing(lifetime):
    """Return a behavior with this lifetime, without ports."""
    return linked(2, (0, 1, lifetime, None, False))


def some_cases(count, kinds, seed, most=9):
    """Return so many tuples of a list of at most so many behaviors and a list of waits."""
    chance = random.Random(seed)
    rows = some_behaviors(kinds * count, 4, 6, seed, 2)
    found = []
    for at in range(count):
        behaviors = rows[kinds * at:kinds * at + chance.randint(1, kinds)]
        if at % 3 == 0:
            behaviors = [made(chance.randint(0, 2), chance.randint(0, 12)) for _ in behaviors]
        if at % 5 == 0:
            behaviors[-1] = behaviors[0]
        waits = [[chance.randint(0, most) for _ in behaviors] for _ in behaviors]
        found.append((behaviors, waits))
    return found


def wrong_behaviors():
    return [
        *[value for value in values_but_behaviors() if value.__class__ is not list or len(value) != 1], [None], [[]],
        session(), (session(),), [[session()]], [session(), None], [None, session()], [session()] * 9, {0: session()},
        Rule(1), [Rule(1)], [True],
    ]


def wrong_waits():
    """Return values that are no waits of two kinds."""
    numbers = [-1, -HIGH, True, False, None, "", "1", "endless", [], [1], (1,), {}, session(), Rule(1), nested(50)]
    return [
        *values_but_behaviors(), session(), Rule(1), [], [[]], [[], []], [[0, 0]], [[0, 0]] * 3, [[0], [0]],
        [[0, 0], [0]], [[0], [0, 0]], [[0, 0], [0, 0, 0]], [[0, 0, 0]] * 3, ([0, 0], [0, 0]), [(0, 0), [0, 0]],
        [[0, 0], (0, 0)],
        [[0, 0], None], [0, 0], {0: [0, 0], 1: [0, 0]}, [{0: 0, 1: 0}, [0, 0]], [[[0], 0], [0, 0]],
        *[[[0, 0], [0, value]] for value in numbers], *[[[value, 0], [0, 0]] for value in numbers],
    ]


class Example(unittest.TestCase):
    def test_session_and_slow(self):
        kinds = [session(), slow()]
        told = [are_safe(kinds, [[80, 55], [0, 0]]), bad_row(kinds, [[79, 99], [0, 0]])[0],
                least_entry(kinds, [[80, 99], [0, 0]], 0, 1)]
        self.assertEqual(told, [True, [0, 0], 55])


class Point50(unittest.TestCase):
    def calls(self, behaviors, waits):
        return [
            lambda: are_safe(behaviors, waits), lambda: bad_row(behaviors, waits),
            lambda: check_bad_row(behaviors, waits, None), lambda: least_entry(behaviors, waits, 0, 0),
            lambda: least_entry(behaviors, waits, None, None),
        ]

    def assert_list(self, value, behaviors, waits):
        for call in self.calls(behaviors, waits):
            with self.assertRaises(InvalidList) as caught:
                call()
            self.assertIs(caught.exception.value, value)

    def test_behaviors(self):
        for value in wrong_behaviors():
            self.assert_list(value, value, [[0, 0], [0, 0]])

    def test_waits(self):
        for value in wrong_waits():
            self.assert_list(value, [session(), slow()], value)

    def test_behaviors_before_waits(self):
        for value in wrong_behaviors():
            for waits in [None, [], [[-1]], "waits"]:
                self.assert_list(value, value, waits)

    def test_one_to_eight_kinds(self):
        for count in range(1, 9):
            behaviors = [made(4, count)] * count
            waits = [[count] * count for _ in range(count)]
            self.assertIs(are_safe(behaviors, waits), True)
            self.assertIsNone(bad_row(behaviors, waits))
            waits[-1][0] -= 1
            self.assertIs(are_safe(behaviors, waits), False)

    def test_one_row_for_all(self):
        row = [80, 80]
        self.assertIs(are_safe([session()] * 2, [row] * 2), True)
        self.assertEqual(least_entry([session()] * 2, [row] * 2, 0, 1), 80)
        self.assertEqual(row, [80, 80])


class Point51(unittest.TestCase):
    def assert_safe(self, behaviors, waits, safe=True):
        self.assertIs(are_safe(behaviors, waits), safe)
        told = bad_row(behaviors, waits)
        self.assertIs(told is None, safe)
        if told is not None:
            self.assertIs(told.__class__, tuple)
            self.assertIs(check_bad_row(behaviors, waits, told), True)
            self.assertIs(is_bad_row(behaviors, waits, told), True)
        return told

    def test_one_kind(self):
        for late in range(-3, 9):
            for wait in range(9):
                self.assert_safe([made(3, late)], [[wait]], late <= wait)

    def test_other_kinds_in_between(self):
        # 0 needs 9 until it comes again; on the way by 1 there are a wait of 2, a lifetime of 3 and another wait.
        for back, safe in [(3, False), (4, True), (5, True)]:
            behaviors = [made(4, 9), passing(3)]
            told = self.assert_safe(behaviors, [[9, 2], [back, 0]], safe)
            if not safe:
                self.assertEqual(told[0], [0, 1, 0])

    def test_several_in_between(self):
        # Each wait between neighbors is 1, each lifetime 2, so 0 comes to 3 in 7; every other wait is long.
        behaviors = [Behavior(3, [(0, 1, 2, 2, False), (0, 2, 0, 10, False)], [(2, 0)], []), passing(2), passing(2),
                     Behavior(2, [(0, 1, 2, 2, False)], [], [(0, 0)])]
        waits = [[99] * 4 for _ in range(4)]
        for at in range(3):
            waits[at][at + 1] = 1
        self.assertEqual(least_wait(behaviors[0], behaviors[3]), 8)
        told = self.assert_safe(behaviors, waits, False)
        self.assertEqual(told[0], [0, 1, 2, 3])
        waits[1][2] = 2
        self.assert_safe(behaviors, waits)

    def test_earlier_and_later_are_not_exchanged(self):
        hearing = Behavior(3, [(0, 1, 4, 4, False), (0, 2, 0, 10, False)], [(2, 0)], [])
        opening = Behavior(2, [(0, 1, 4, 4, False)], [], [(0, 0)])
        for wait in range(9):
            self.assert_safe([hearing, opening], [[0, wait], [0, 0]], wait >= 6)
            self.assert_safe([hearing, opening], [[9, 6], [wait, 9]])
            self.assert_safe([opening, hearing], [[9, wait], [6, 9]])
            self.assert_safe([opening, hearing], [[0, 0], [wait, 0]], wait >= 6)
        # The way by another holder of the kind that hears takes a lifetime more: 0 and 4 and 1.
        self.assertEqual(self.assert_safe([hearing, opening], [[0, 5], [0, 0]], False)[0], [0, 1])

    def test_kind_without_a_release(self):
        # It can only be the last one: to it comes 0, but nothing comes behind it.
        behaviors = [made(4, 9), unending()]
        self.assert_safe(behaviors, [[9, 9], [0, 0]])
        self.assertEqual(self.assert_safe(behaviors, [[9, 8], [0, 0]], False)[0], [0, 1])
        self.assertEqual(self.assert_safe(behaviors, [[8, 9], [0, 0]], False)[0], [0, 0])
        for claim in [[1, 0], [1, 1], [0, 1, 0], [0, 1, 1]]:
            for shown in [trace(behaviors[0], behaviors[0], 0), trace(behaviors[0], behaviors[1], 0)]:
                self.assertIs(check_bad_row(behaviors, [[0, 0], [0, 0]], (claim, shown)), False)

    def test_only_kinds_without_a_release(self):
        for count in range(1, 9):
            self.assert_safe([unending()] * count, [[0] * count] * count)

    def test_no_wait_is_safe(self):
        self.assert_safe([endless()], [[HIGH]], False)
        told = self.assert_safe([passing(1), endless()], [[HIGH] * 2] * 2, False)
        self.assertEqual(told[0], [1, 1])

    def test_sums_of_0(self):
        none = [[0] * 3 for _ in range(3)]
        self.assert_safe([made(0, 0)] * 3, none)
        self.assert_safe([passing(0), made(0, 0), unending()], none)
        told = self.assert_safe([passing(0), made(0, 1), passing(0)], none, False)
        self.assertEqual((told[0][0], told[0][-1]), (1, 1))

    def test_a_kind_comes_again_and_again(self):
        # Each time that 1 comes costs a wait of 1 and a lifetime of 2: four times are 12 and the wait of 1, not yet 14.
        behaviors, waits = [made(2, 14), passing(2)], [[99, 1], [1, 1]]
        shown = trace(behaviors[0], behaviors[0], 13)
        for often in range(1, 60):
            kinds = [0, *[1] * often, 0]
            rest = 1 + 3 * often
            self.assertEqual(rest_along(behaviors, waits, kinds), rest)
            self.assertIs(check_bad_row(behaviors, waits, (kinds, shown)), rest < 14, often)
        # Without any time in between there is no end.
        behaviors, waits = [made(0, 1), passing(0)], [[0, 0], [0, 0]]
        shown = trace(behaviors[0], behaviors[0], 0)
        for kinds in [[0, 0], [0] * 60, [0, 1] * 29 + [1, 0], [0, *[1] * 58, 0]]:
            self.assertIs(check_bad_row(behaviors, waits, (kinds, shown)), True)
            self.assertIs(check_bad_row(behaviors, [[1, 1], [1, 1]], (kinds, shown)), False)

    def test_told_list_need_not_be_direct(self):
        behaviors, waits = [made(1, 10), passing(1), passing(1)], [[50, 1, 50], [50, 50, 1], [1, 50, 50]]
        self.assertEqual(self.assert_safe(behaviors, waits, False)[0], [0, 1, 2, 0])

    def test_claims_of_any_value(self):
        behaviors, waits = [session(), slow()], [[79, 54], [0, 0]]
        kinds, shown = [0, 0], trace(session(), session(), 79)
        self.assertIs(check_bad_row(behaviors, waits, (kinds, shown)), True)
        self.assertIs(check_bad_row(behaviors, waits, ([0, 1], trace(session(), slow(), 54))), True)
        for claim in [
            *values_but_behaviors(), session(), Rule(0), [kinds, shown], (kinds,), (shown, kinds), (kinds, shown, 0),
            ((0, 0), shown), ([0], shown), ([], shown), ([0, 0], list(shown)), ([0, 0], None), ([0, 0], shown[:4]),
            ([0, True], shown), ([False, 0], shown), ([0, -2], shown), ([0, 2], shown), ([0, "0"], shown),
            ([0, None], shown), ([0, [0]], shown), ([0, session()], shown), ({0: 0, 1: 0}, shown), ("00", shown),
            ([0, 1], shown), ([1, 0], shown), ([1, 1], shown), ([0, 1, 0], shown), ([0, 0, 0], shown),
            (session(), shown),
        ]:
            self.assertIs(check_bad_row(behaviors, waits, claim), is_bad_row(behaviors, waits, claim), claim)
        for claim in values_but_behaviors():
            self.assertIs(check_bad_row(behaviors, waits, claim), False)

    def test_one_part_changed(self):
        for behaviors, waits in some_cases(80, 3, 51, 4):
            told = bad_row(behaviors, waits)
            for claim in [] if told is None else changed(told, len(behaviors)):
                self.assertIs(check_bad_row(behaviors, waits, claim), is_bad_row(behaviors, waits, claim), claim)

    def test_changed_waits(self):
        for behaviors, waits in some_cases(80, 3, 52, 4):
            told = bad_row(behaviors, waits)
            for more in range(5) if told else []:
                rows = [[wait + more for wait in row] for row in waits]
                self.assertIs(check_bad_row(behaviors, rows, told), is_bad_row(behaviors, rows, told))

    def test_against_all_lists_of_kinds(self):
        safe = 0
        for behaviors, waits in some_cases(250, 3, 53, 14):
            expected = are_safe_chains(behaviors, waits)
            safe += expected
            self.assert_safe(behaviors, waits, expected)
        self.assertTrue(30 < safe < 220, safe)

    def test_all_bad_lists_can_be_claimed(self):
        for behaviors, waits in some_cases(60, 3, 54, 3):
            for kinds in bad_chains(behaviors, waits, 4):
                rest = rest_along(behaviors, waits, kinds)
                shown = trace(behaviors[kinds[0]], behaviors[kinds[-1]], rest)
                self.assertIs(check_bad_row(behaviors, waits, (kinds, shown)), True)

    def test_nothing_is_changed(self):
        behaviors, waits = [session(), slow()], [[79, 54], [0, 0]]
        first = bad_row(behaviors, waits)
        self.assertEqual((behaviors, waits), ([session(), slow()], [[79, 54], [0, 0]]))
        first[0].append(1)
        first[1][1].clear()
        again = bad_row(behaviors, waits)
        self.assertIs(check_bad_row(behaviors, waits, again), True)
        self.assertIs(check_bad_row(behaviors, waits, first), False)


def changed(claim, count):
    """Yield the claims in which one part of a tuple (kinds, trace) is another one."""
    kinds, shown = claim
    for other in [[], kinds[:1], kinds[1:], kinds[:-1], kinds[::-1], kinds + kinds, tuple(kinds), [*kinds, None], None]:
        yield other, shown
    for at, kind in enumerate(kinds):
        for other in [*range(-1, count + 1), bool(kind), str(kind), [kind], None]:
            yield [*kinds[:at], other, *kinds[at + 1:]], shown
            yield [*kinds[:at], other, *kinds[at:]], shown
    for at in range(5):
        for other in [None, (), [], shown[at] + shown[at] if at < 4 else shown[at] + 1, bool(shown[at]), shown[at - 1]]:
            yield kinds, (*shown[:at], other, *shown[at + 1:])
    yield shown, kinds
    yield [kinds, shown]
    yield kinds, shown, 0
    yield claim


class Point52(unittest.TestCase):
    def test_entries_of_one_kind(self):
        for late in range(-3, 9):
            for wait in [0, 5, HIGH]:
                self.assertEqual(least_entry([made(3, late)], [[wait]], 0, 0), max(0, late))
        self.assertEqual(least_entry([endless()], [[5]], 0, 0), "endless")
        self.assertEqual(least_entry([unending()], [[5]], 0, 0), 0)

    def test_the_given_entry_does_not_count(self):
        for wait in [0, 54, 55, 56, HIGH]:
            self.assertEqual(least_entry([session(), slow()], [[80, wait], [0, 0]], 0, 1), 55)

    def test_entry_that_others_need(self):
        # The wait from 0 to 1 is on the way from 0 by 1 to 0, on which 0 needs 9.
        behaviors = [made(4, 9), passing(3)]
        for back in range(12):
            self.assertEqual(least_entry(behaviors, [[9, 0], [back, 0]], 0, 1), max(0, 6 - back))
            self.assertEqual(least_entry(behaviors, [[9, back], [0, 0]], 1, 0), max(0, 6 - back))
        self.assertEqual(least_entry(behaviors, [[8, 0], [9, 0]], 0, 1), "endless")
        self.assertEqual(least_entry(behaviors, [[8, 6], [0, 0]], 0, 0), 9)
        self.assertEqual(least_entry(behaviors, [[8, 5], [0, 0]], 0, 0), "endless")
        self.assertEqual(least_entry(behaviors, [[9, 6], [0, 77]], 1, 1), 0)

    def test_least_entry_of_0_on_a_way(self):
        behaviors = [made(1, 6), passing(1), passing(1)]
        self.assertEqual(least_entry(behaviors, [[6, 4, 5], [0, 0, 9], [0, 9, 0]], 1, 0), 1)
        self.assertEqual(least_entry(behaviors, [[6, 5, 5], [0, 0, 9], [0, 9, 0]], 1, 0), 0)
        # From 0 by 2 to 1 and from there to 0: 1, 1, the entry, 1 and 1.
        self.assertEqual(least_entry(behaviors, [[6, 9, 1], [1, 0, 0], [9, 9, 0]], 2, 1), 2)

    def test_no_entry_is_enough(self):
        self.assertEqual(least_entry([endless(), passing(1)], [[0, 0], [0, 0]], 1, 1), "endless")
        self.assertEqual(least_entry([endless(), passing(1)], [[0, 0], [0, 0]], 0, 0), "endless")
        self.assertEqual(least_entry([made(0, 5), made(0, 5)], [[5, 5], [5, 4]], 0, 1), "endless")

    def test_the_same_kind_twice(self):
        twice = [made(2, 7)] * 2
        self.assertEqual([least_entry(twice, [[7, 7], [7, 7]], i, j) for i in (0, 1) for j in (0, 1)], [7] * 4)
        self.assertEqual(least_entry(twice, [[7, 6], [7, 7]], 1, 0), "endless")
        self.assertEqual(least_entry([made(2, 0)] * 2, [[7, 7], [7, 7]], 1, 0), 0)
        self.assertEqual(least_entry([endless()] * 2, [[7, 7], [7, 7]], 1, 0), "endless")

    def test_kind_without_a_release(self):
        behaviors = [made(4, 9), unending()]
        waits = [[9, 9], [0, 0]]
        self.assertEqual([least_entry(behaviors, waits, i, j) for i in (0, 1) for j in (0, 1)], [9, 9, 0, 0])
        self.assertEqual(least_entry(behaviors, [[9, 8], [0, 0]], 1, 0), "endless")

    def test_long_numbers(self):
        behaviors = [made(HIGH, HIGH), passing(1)]
        self.assertEqual(least_entry(behaviors, [[0, HIGH], [0, 0]], 0, 0), HIGH)
        self.assertEqual(least_entry(behaviors, [[HIGH, 0], [HIGH - 3, 0]], 0, 1), 2)
        self.assertEqual(least_entry(behaviors, [[HIGH, 0], [HIGH, 0]], 0, 1), 0)

    def test_against_all_lists_of_kinds(self):
        told = []
        for behaviors, waits in some_cases(120, 3, 55, 14):
            for i in range(len(behaviors)):
                for j in range(len(behaviors)):
                    expected = entry_found_by_trying(behaviors, waits, i, j)
                    self.assertEqual(least_entry(behaviors, waits, i, j), expected, (waits, i, j))
                    told.append(expected)
        self.assertTrue({0, 1, 2, 3, "endless"} <= set(told))

    def test_with_it_the_waits_are_safe(self):
        for behaviors, waits in some_cases(200, 5, 56, 14):
            for i, j in [(0, 0), (0, len(behaviors) - 1), (len(behaviors) - 1, 0)]:
                told = least_entry(behaviors, waits, i, j)
                for number in [0, HIGH] if told == "endless" else [max(0, told - 1), told, told + 1]:
                    rows = [list(row) for row in waits]
                    rows[i][j] = number
                    self.assertIs(are_safe(behaviors, rows), told != "endless" and number >= told)

    def test_indexes(self):
        behaviors, waits = [session(), slow()], [[80, 55], [0, 0]]
        for value in NO_INDEXES:
            for arguments in [(value, 0), (value, 1), (value, None), (value, -3), (0, value), (1, value)]:
                with self.assertRaises(InvalidNumber) as caught:
                    least_entry(behaviors, waits, *arguments)
                self.assertIs(caught.exception.value, value)

    def test_lists_before_indexes(self):
        for behaviors, waits, value in [(None, None, None), ([], [], []), ([session()], "waits", "waits")]:
            with self.assertRaises(InvalidList) as caught:
                least_entry(behaviors, waits, -1, -2)
            self.assertEqual(caught.exception.value, value)

    def test_nothing_is_changed(self):
        behaviors, waits = [session(), slow()], [[80, 99], [0, 0]]
        for i, j, told in [(0, 1, 55), (0, 0, 80), (1, 0, 0), (1, 1, 0), (0, 1, 55)]:
            self.assertEqual(least_entry(behaviors, waits, i, j), told)
            self.assertEqual((behaviors, waits), ([session(), slow()], [[80, 99], [0, 0]]))

    def test_lifetimes(self):
        self.assertEqual([earliest(one)[1] for one in (made(4, 9), passing(3), unending())], [4, 3, "never"])


if __name__ == "__main__":
    unittest.main()
