import random
import unittest

from reissue.behaviors import Behavior, is_run
from reissue.certificates import certificate
from reissue.traces import check_trace, trace
from reissue.waits import least_wait

from arguments import assert_arguments_are_checked
from judges import is_trace, runs_of, with_events
from samples import made, nested, session, slow, some_pairs, values_but_behaviors

HIGH = 10 ** 40 - 1
# Late 2 to 6 after the issue by way of 2, and a ring of 2 and 3 with delays of 1 to 2 and 0 to 3.
RING = Behavior(5, [(0, 1, 5, 9, False), (0, 2, 2, 6, False), (2, 3, 1, 2, False), (3, 2, 0, 3, False),
                    (3, 4, 0, 0, False)], [(4, 7), (3, 8)], [(0, 7), (1, 8)])
OPENING = Behavior(3, [(0, 2, 3, None, False), (2, 2, 1, 1, True)], [], [(0, 0), (2, 7)])


def shifts(number):
    """Return values beside a number, some of which are equal to it but of another kind."""
    return [number - 1, number + 1, -number - 1, number + 10, bool(number), None, str(number), (number,), [number]]


def changed(claim):
    """Yield the claims in which one part of a trace is another one."""
    for at in range(4):
        for walk in changed_walks(claim[at]):
            yield (*claim[:at], walk, *claim[at + 1:])
    for port in shifts(claim[4]):
        yield (*claim[:4], port)


def changed_walks(walk):
    yield from [None, (), tuple(walk), [()], [[]], [None], [([], 1)], [*walk, ([], 1)]]
    yield from [walk[1:], walk[:-1], walk + walk]
    for at, (steps, often) in enumerate(walk):
        blocks = [(steps, other) for other in shifts(often)]
        blocks += [[steps, often], (steps,), (steps, often, often), (tuple(steps), often), (steps[1:], often)]
        blocks += [(steps[:-1], often), (steps + steps, often), (steps[::-1], often)]
        for place, (link, delay) in enumerate(steps):
            others = [(link, other) for other in shifts(delay)] + [(other, delay) for other in shifts(link)]
            for step in [*others, [link, delay], (link,), (link, delay, delay), None]:
                blocks.append(([*steps[:place], step, *steps[place + 1:]], often))
        for block in blocks:
            yield [*walk[:at], block, *walk[at + 1:]]


class Example(unittest.TestCase):
    def test_session(self):
        claim = ([], [([(1, 90)], 1)], [([(0, 10)], 1)], [], 0)
        self.assertIs(check_trace(session(), session(), 79, claim), True)
        self.assertIs(check_trace(session(), session(), 80, claim), False)

    def test_told(self):
        self.assertIsNone(trace(session(), session(), 80))
        self.assertIs(check_trace(session(), session(), 79, trace(session(), session(), 79)), True)


class Both(unittest.TestCase):
    def test_by_name(self):
        claim = trace(wait=54, later=slow(), earlier=session())
        self.assertIs(check_trace(claim=claim, wait=54, later=slow(), earlier=session()), True)

    def test_errors_in_order(self):
        assert_arguments_are_checked(self, trace)
        assert_arguments_are_checked(self, lambda *rest: check_trace(*rest, None))

    def test_nothing_is_changed(self):
        earlier, later, claim = session(), slow(), trace(session(), slow(), 3)
        again = trace(earlier, later, 3)
        self.assertEqual(again, claim)
        self.assertIs(check_trace(earlier, later, 3, again), True)
        self.assertEqual((earlier, later, again), (session(), slow(), claim))


class Point32(unittest.TestCase):
    """Walks, as parts of claims."""

    def assert_late(self, walk, good, wait=0, behavior=RING):
        claim = ([], walk, [([(0, 5)], 1)], [], 7)
        self.assertIs(check_trace(behavior, behavior, wait, claim), good, walk)

    def test_blocks(self):
        self.assert_late([([(1, 6), (2, 2), (4, 0)], 1)], True)
        self.assert_late([([(1, 6)], 1), ([(2, 2)], 1), ([(4, 0)], 1)], True)
        self.assert_late([([(1, 6), (2, 2)], 1), ([(4, 0)], 1)], True)

    def test_sum(self):
        # 6, 9 times 5, 2 and 0, less the 5 of the early walk.
        walk = [([(1, 6)], 1), ([(2, 2), (3, 3)], 9), ([(2, 2), (4, 0)], 1)]
        self.assert_late(walk, True, 47)
        self.assert_late(walk, False, 48)

    def test_ring_in_several_places(self):
        walk = [([(1, 2), (2, 1)], 1), ([(3, 3), (2, 2)], 2), ([(3, 0), (2, 1)], 5), ([(4, 0)], 1)]
        self.assert_late(walk, True, 12)
        self.assert_late(walk, False, 13)

    def test_how_often(self):
        for often, good in [
            (1, True), (2, True), (10 ** 40, True), (0, False), (-1, False), (True, False), (None, False), ("2", False),
            ([1], False),
        ]:
            self.assert_late([([(1, 6)], 1), ([(2, 2), (3, 0)], often), ([(2, 2), (4, 0)], 1)], good)

    def test_only_a_ring_is_gone_through_again(self):
        self.assert_late([([(1, 6)], 2), ([(2, 2), (4, 0)], 1)], False)
        self.assert_late([([(1, 6)], 1), ([(2, 2), (4, 0)], 2)], False)
        self.assert_late([([(1, 6)], 1), ([(2, 2)], 2), ([(4, 0)], 1)], False)
        again = Behavior(3, [(0, 1, 5, 9, False), (0, 2, 0, 0, False), (2, 2, 1, 1, False)], [(2, 7)], [(0, 7)])
        self.assert_late([([(1, 0), (2, 1)], 9)], False, 0, again)
        self.assert_late([([(1, 0)], 1), ([(2, 1)], 9)], True, 3, again)
        self.assert_late([([(1, 0)], 1), ([(2, 1)], 9)], False, 4, again)

    def test_delays(self):
        for delay in range(-2, 10):
            self.assert_late([([(1, delay), (2, 2), (3, 3), (2, 2), (4, 0)], 1)], 2 <= delay <= 6)
        for delay in [True, None, "3", (3,), HIGH]:
            self.assert_late([([(1, delay), (2, 2), (3, 3), (2, 2), (4, 0)], 1)], False)

    def test_no_upper_end(self):
        behavior = Behavior(3, [(0, 1, 5, 9, False), (0, 2, 3, None, False)], [(2, 7)], [(0, 7)])
        for delay, good in [(2, False), (5, False), (6, True), (HIGH ** 2, True)]:
            self.assert_late([([(1, delay)], 1)], good, 0, behavior)

    def test_links(self):
        for link in [-1, -4, 0, 2, 3, 4, 5, 60, HIGH, True, False, None, "1", (1,)]:
            self.assert_late([([(link, 6), (2, 2), (4, 0)], 1)], False)

    def test_one_behind_another(self):
        self.assert_late([([(2, 2), (3, 3), (2, 2), (4, 0)], 1)], False)
        self.assert_late([([(1, 6), (4, 0)], 1)], False)
        self.assert_late([([(1, 6), (2, 2)], 1), ([(2, 2), (4, 0)], 1)], False)
        self.assert_late([([(2, 2), (4, 0)], 1), ([(1, 6)], 1)], False)
        self.assert_late([([(1, 6), (2, 2)], 1)], False)

    def test_other_forms(self):
        for walk in [
            (), None, 1, "", {}, [None], [[]], [()], [([], 1)], [(((1, 6), (2, 2), (4, 0)), 1)],
            (([(1, 6), (2, 2), (4, 0)], 1),), [[[(1, 6), (2, 2), (4, 0)], 1]], [([[1, 6], (2, 2), (4, 0)], 1)],
            [([(1, 6), (2, 2), (4, 0)],)], [([(1, 6), (2, 2), (4, 0)], 1, 1)], [(1, [(1, 6), (2, 2), (4, 0)])],
            [([(1, 6), (2, 2), (4, 0, 0)], 1)], [([(1, 6), (2, 2), (4,)], 1)], [([(1, 6), (2, 2), ()], 1)],
            [([(1, 6), (2, 2), (4, 0)], 1), ([], 1)], [([], 1), ([(1, 6), (2, 2), (4, 0)], 1)],
            [([(1, 6), (2, 2), (4, 0)], 1), None], session(), [session()], [(session(), 1)], [([session()], 1)],
            nested(50),
        ]:
            self.assert_late(walk, False)


class Point33(unittest.TestCase):
    def assert_claim(self, good, *claim, wait=0, earlier=RING, later=RING):
        self.assertIs(check_trace(earlier, later, wait, claim), good, claim)

    def test_sums(self):
        late, early = [([(1, 6), (2, 2), (4, 0)], 1)], [([(0, 5)], 1)]
        for wait, good in [(0, True), (2, True), (3, False), (4, False), (HIGH, False)]:
            self.assert_claim(good, [], late, early, [], 7, wait=wait)
        self.assert_claim(False, [], late, [([(0, 8)], 1)], [], 7)
        # The opening needs 3 or more of the 3 that are left.
        self.assert_claim(False, [], late, early, [([(0, 3)], 1)], 7, later=OPENING)
        longer = [([(1, 6), (2, 2), (3, 3), (2, 2), (4, 0)], 1)]
        self.assert_claim(True, [], longer, early, [([(0, 3)], 1)], 7, wait=4, later=OPENING)
        self.assert_claim(False, [], longer, early, [([(0, 3)], 1)], 7, wait=5, later=OPENING)
        self.assert_claim(True, [], longer, early, [([(0, 3)], 1), ([(1, 1)], 4)], 7, wait=0, later=OPENING)
        self.assert_claim(False, [], longer, early, [([(0, 3)], 1), ([(1, 1)], 5)], 7, wait=0, later=OPENING)

    def test_start(self):
        behavior = Behavior(4, [(0, 2, 1, 9, False), (2, 1, 2, 2, False), (2, 3, 0, 8, False)], [(3, 0)], [(0, 0)])
        late, early = [([(2, 8)], 1)], [([(1, 2)], 1)]
        for start, good in [([([(0, 1)], 1)], True), ([([(0, 9)], 1)], True), ([([(0, 10)], 1)], False), ([], False),
                            ([([(0, 1), (1, 2)], 1)], False), ([([(0, 1)], 2)], False), (None, False)]:
            self.assert_claim(good, start, late, early, [], 0, wait=5, earlier=behavior, later=behavior)
            self.assert_claim(False, start, late, early, [], 0, wait=6, earlier=behavior, later=behavior)

    def test_start_at_the_release(self):
        behavior = Behavior(3, [(0, 1, 3, None, False), (1, 2, 4, 6, False)], [(2, 0)], [(0, 0)])
        start, late = [([(0, 3)], 1)], [([(1, 6)], 1)]
        self.assert_claim(True, start, late, [], [], 0, wait=5, earlier=behavior, later=behavior)
        self.assert_claim(False, start, late, [], [], 0, wait=6, earlier=behavior, later=behavior)
        self.assert_claim(False, [], [([(0, 99), (1, 6)], 1)], [], [], 0, earlier=behavior, later=behavior)
        self.assertEqual(least_wait(behavior, behavior), 6)

    def test_late_walk_that_is_empty(self):
        behavior = Behavior(2, [(0, 1, 0, 9, False)], [(0, 0), (1, 0)], [(0, 0)])
        for start, early in [([], [([(0, 0)], 1)]), ([([(0, 0)], 1)], [])]:
            self.assert_claim(False, start, [], early, [], 0, earlier=behavior, later=behavior)
        self.assertIsNone(trace(behavior, behavior, 0))

    def test_ends_of_the_walks(self):
        late, early = [([(1, 6), (2, 2), (4, 0)], 1)], [([(0, 5)], 1)]
        self.assert_claim(False, [], late, [([(1, 2)], 1)], [], 7)
        self.assert_claim(False, [], late, [], [], 7)
        self.assert_claim(False, [], late[:0], early, [], 7)
        self.assert_claim(False, [], [([(1, 6), (2, 2), (3, 3)], 1)], early, [], 7)
        self.assert_claim(False, [], late, early, [([(0, 5)], 1)], 7)
        self.assert_claim(False, [], late, early, [([(0, 3)], 1)], 7)

    def test_port(self):
        late, early = [([(1, 6), (2, 2), (4, 0)], 1)], [([(0, 5)], 1)]
        for port in [8, 6, 0, -7, True, None, "7", (7,), [7], 7 + HIGH, session()]:
            self.assert_claim(False, [], late, early, [], port)
        # Both the hearer and the opener have to be of the same port; True is no port 1.
        self.assert_claim(False, [], [([(1, 6), (2, 2)], 1)], early, [], 8)
        links = [(0, 1, 0, 0, False), (0, 1, 0, 9, False)]
        one = Behavior(2, links, [(1, 1), (1, 0)], [(0, 1), (0, 0)])
        for port, good in [(1, True), (True, False), (0, True), (False, False), (2, False)]:
            self.assert_claim(good, [], [([(1, 9)], 1)], [([(0, 0)], 1)], [], port, earlier=one, later=one)

    def test_first_links(self):
        for many in [False, True]:
            behavior = Behavior(4, [(0, 2, 1, 7, many), (2, 1, 2, 2, False), (2, 3, 0, 8, False), (0, 2, 1, 7, False)],
                                [(3, 0)], [(0, 0)])
            late, early = [([(0, 7), (2, 8)], 1)], [([(0, 1), (1, 2)], 1)]
            self.assert_claim(many, [], late, early, [], 0, wait=11, earlier=behavior, later=behavior)
            self.assert_claim(False, [], late, early, [], 0, wait=12, earlier=behavior, later=behavior)
            # The same delays by another link, and the same link further on, are no matter.
            other = [([(3, 1), (1, 2)], 1)]
            self.assert_claim(True, [], late, other, [], 0, wait=11, earlier=behavior, later=behavior)
        links = [(0, 1, 4, 4, False), (0, 2, 0, 0, False), (2, 2, 1, 3, False), (2, 1, 2, 2, False)]
        ring = Behavior(3, links, [(2, 0)], [(0, 0)])
        start, late = [([(1, 0)], 1)], [([(2, 3)], 4)]
        self.assert_claim(True, start, late, [([(3, 2)], 1)], [], 0, wait=9, earlier=ring, later=ring)
        self.assert_claim(False, start, late, [([(2, 1), (3, 2)], 1)], [], 0, wait=0, earlier=ring, later=ring)

    def test_claims_of_any_value(self):
        good = ([], [([(1, 6), (2, 2), (4, 0)], 1)], [([(0, 5)], 1)], [], 7)
        self.assert_claim(True, *good)
        for claim in [
            *values_but_behaviors(), session(), list(good), good[:4], (*good, 7), (good,), good[::-1], (None,) * 5,
            (session(),) * 5, ([],) * 5, (*good[:4], []),
        ]:
            self.assertIs(check_trace(RING, RING, 0, claim), False, claim)

    def test_one_part_changed(self):
        for earlier, later in [(RING, RING), (RING, OPENING), (session(), session()), (session(), slow()),
                               *some_pairs(60, 5, 9, 33)]:
            wait = least_wait(earlier, later)
            claim = trace(earlier, later, 6 if wait == "endless" else max(0, wait - 2))
            if claim is not None:
                for wait in [0, 3, 5, 6, 7]:
                    for other in [claim, *changed(claim)]:
                        told = check_trace(earlier, later, wait, other)
                        self.assertIs(told, is_trace(earlier, later, wait, other), (earlier.links, later.links, other))

    def test_told_exactly_if_not_safe(self):
        for earlier, later in some_pairs(300, 6, 12, 34):
            least = least_wait(earlier, later)
            edges = [] if least == "endless" else [least, least + 1, max(0, least - 1)]
            for wait in [0, 1, 2, 3, 5, 20, HIGH, *edges]:
                claim = trace(earlier, later, wait)
                self.assertEqual(claim is None, least != "endless" and wait >= least)
                self.assertEqual(claim is None, certificate(earlier, later, wait) is not None)
                if claim is not None:
                    self.assertIs(check_trace(earlier, later, wait, claim), True, (earlier.links, later.links, claim))

    def test_told_claims_are_traces_word_by_word(self):
        for earlier, later in some_pairs(300, 6, 12, 35):
            for wait in [0, 1, 4, 11]:
                claim = trace(earlier, later, wait)
                if claim is not None:
                    self.assertIs(is_trace(earlier, later, wait, claim), True, (earlier.links, later.links, claim))

    def test_traces_are_runs_in_which_something_is_misdelivered(self):
        for earlier, later in some_pairs(300, 6, 12, 36):
            claim = trace(earlier, later, 3)
            if claim is not None:
                run, after, heard, release = runs_of(claim)
                run, after = with_events(earlier, run), with_events(later, after)
                self.assertTrue(is_run(earlier, run) and is_run(later, after))
                self.assertEqual(run[release][0], 1)
                issued = min(row[3] for row in run if row[0] == 1) + 3
                self.assertIn((run[heard][0], claim[4]), earlier.heard)
                self.assertIn((after[-1][0], claim[4]), later.opens)
                self.assertLess(issued + after[-1][3], run[heard][3])

    def test_rings_that_grow(self):
        links = [(0, 1, 5, 5, False), (0, 2, 0, 0, False), (2, 3, 0, 1, False), (3, 4, 0, 0, False),
                 (4, 2, 0, 2, False), (3, 5, 0, 4, False)]
        behavior = Behavior(6, links, [(5, 0)], [(0, 0)])
        for wait in [0, 1, 7, 1000, HIGH]:
            claim = trace(behavior, behavior, wait)
            self.assertIs(check_trace(behavior, behavior, wait, claim), True)
            self.assertLess(sum(len(steps) for steps, _ in claim[1]), 20)

    def test_ring_with_a_link_without_an_end(self):
        ring = [(2, 3, 0, 1, False), (3, 2, 0, None, False)]
        for links in [ring, ring[::-1]]:
            behavior = Behavior(4, [(0, 1, 5, 5, False), (0, 2, 0, 0, False), *links], [(2, 0)], [(0, 0)])
            for wait in [0, 7, HIGH]:
                self.assertIs(check_trace(behavior, behavior, wait, trace(behavior, behavior, wait)), True)

    def test_ring_behind_the_release(self):
        behavior = Behavior(2, [(0, 1, 4, 4, False), (1, 1, 0, 1, False)], [(1, 0)], [(1, 0)])
        for wait in [0, 5, HIGH]:
            self.assertIs(check_trace(behavior, behavior, wait, trace(behavior, behavior, wait)), True)

    def test_links_without_an_end(self):
        for links in [
            [(0, 1, 5, 5, False), (0, 2, 3, None, False)], [(0, 1, 5, 5, False), (1, 2, 3, None, False)],
            [(0, 1, 5, 5, False), (0, 1, 9, None, False), (1, 2, 1, 1, False)],
            [(0, 1, 5, None, True), (1, 2, 0, 0, False)],
            [(0, 2, 0, 0, True), (2, 1, 2, 2, False), (2, 2, 1, None, False)],
        ]:
            behavior = Behavior(3, links, [(2, 0)], [(1, 0)])
            for wait in [0, 1, 50, HIGH]:
                self.assertIs(check_trace(behavior, behavior, wait, trace(behavior, behavior, wait)), True, links)

    def test_told_lists_are_new_and_differ(self):
        for behavior in [RING, made(0, 5), session()]:
            first, again = trace(behavior, behavior, 1), trace(behavior, behavior, 1)
            self.assertIs(first.__class__, tuple)
            self.assertEqual(first, again)
            lists = [walk for claim in (first, again) for walk in claim[:4]]
            lists += [steps for walk in lists for steps, _ in walk]
            self.assertEqual(len({id(rows) for rows in lists}), len(lists))
            for rows in lists:
                rows.append("changed")
            self.assertIs(check_trace(behavior, behavior, 1, trace(behavior, behavior, 1)), True)

    def test_random_claims(self):
        chance = random.Random(37)
        for earlier, later in some_pairs(150, 3, 6, 38):
            for _ in range(20):
                claim = tuple(self.some_walk(chance, later if at == 3 else earlier) for at in range(4))
                claim = (*claim, chance.randrange(2))
                self.assertIs(check_trace(earlier, later, 0, claim), is_trace(earlier, later, 0, claim), claim)

    def some_walk(self, chance, behavior):
        rows = list(enumerate(behavior.links))
        place, walk = chance.choice([0, 0, 0, 1]), []
        while chance.random() < 0.6:
            ahead = [(link, row) for link, row in rows if row[0] == place]
            if not ahead:
                return walk
            link, (_, place, least, most, _) = chance.choice(ahead)
            walk.append(([(link, least if most is None else chance.choice([least, most]))], 1))
        return walk


if __name__ == "__main__":
    unittest.main()
