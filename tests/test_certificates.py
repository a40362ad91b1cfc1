import unittest

from reissue.behaviors import Behavior
from reissue.certificates import certificate, check_certificate
from reissue.traces import trace
from reissue.waits import least_wait

from arguments import assert_arguments_are_checked
from judges import is_certificate
from samples import linked, made, nested, session, slow, some_pairs, values_but_behaviors

HIGH = 10 ** 40 - 1
# Released 5 to 9 after the issue; 2 comes 1 to 6 after the issue, 3 up to 4 after it, and 0 to 2 after the release.
LINKS = [(0, 1, 5, 9, False), (0, 2, 1, 6, False), (2, 3, 0, 4, False), (1, 3, 0, 2, False)]
FORK = Behavior(4, LINKS, [(3, 0)], [(0, 0)])
GOOD = ([True] * 4, [5, 0, None, None], [11, 2, 4, 0], [0, 5, 1, 1])


def changed(claim):
    """Yield the claims in which one item of a certificate is another one."""
    for at, items in enumerate(claim):
        for place, item in enumerate(items):
            others = [None, "endless", True, False, not item, 0, -1, 1, "never", "0", [], (0,), HIGH, -HIGH]
            if item.__class__ is int:
                others += [item - 1, item + 1]
            for other in others:
                yield (*claim[:at], [*items[:place], other, *items[place + 1:]], *claim[at + 1:])


class Both(unittest.TestCase):
    def test_session(self):
        claim = certificate(session(), session(), 80)
        self.assertIs(check_certificate(session(), session(), 80, claim), True)
        self.assertIs(check_certificate(session(), session(), 79, claim), False)
        self.assertIsNone(certificate(session(), session(), 79))

    def test_by_name(self):
        claim = certificate(wait=55, later=slow(), earlier=session())
        self.assertIs(check_certificate(claim=claim, wait=55, later=slow(), earlier=session()), True)

    def test_errors_in_order(self):
        assert_arguments_are_checked(self, certificate)
        assert_arguments_are_checked(self, lambda *rest: check_certificate(*rest, None))

    def test_nothing_is_changed(self):
        earlier, later, claim = session(), slow(), certificate(session(), slow(), 55)
        again = certificate(earlier, later, 55)
        self.assertIs(check_certificate(earlier, later, 55, again), True)
        self.assertEqual((earlier, later, again), (session(), slow(), claim))


class Point34(unittest.TestCase):
    def assert_claim(self, good, seen=GOOD[0], back=GOOD[1], harm=GOOD[2], opening=GOOD[3], wait=6, both=FORK):
        self.assertIs(check_certificate(both, both, wait, (seen, back, harm, opening)), good)

    def test_good_one(self):
        self.assertEqual(least_wait(FORK, FORK), 5)
        for wait, good in [(4, False), (5, True), (6, True), (HIGH, True)]:
            self.assert_claim(good, wait=wait)
        self.assert_claim(False, wait=0)

    def test_seen(self):
        for at in range(4):
            for other in [False, 1, 0, None, "True", [True], (True,)]:
                self.assert_claim(False, seen=[other if place == at else True for place in range(4)])
        self.assert_claim(False, seen=[False] * 4)

    def test_what_is_not_seen_need_not_fit(self):
        behavior = Behavior(5, [*FORK.links, (4, 3, 0, None, True), (4, 1, 0, 0, True)], [(3, 0), (4, 0)], [(0, 0)])
        for more in [None, 0, -7, 99, "endless"]:
            for back in [None, 0, -7, 99]:
                claim = ([True] * 4 + [False], [*GOOD[1], back], [*GOOD[2], more], [*GOOD[3], None])
                self.assertIs(check_certificate(behavior, behavior, 5, claim), True)
                claim = ([True] * 5, [*GOOD[1], back], [*GOOD[2], more], [*GOOD[3], None])
                self.assertIs(check_certificate(behavior, behavior, 5, claim), False)
        # Seen, it is a common cause of what is heard and of a release: a most of None is too much then.
        self.assertIs(certificate(behavior, behavior, 5)[0][4], False)

    def test_opening(self):
        # Earlier openings do more harm: 3 is heard at least `-opening[0]` late.
        for opening, good in [([0, 5, 1, 1], True), ([0, 4, 0, -3], True), ([0, 5, 1, 2], False), ([0, 6, 1, 1], False),
                              ([0, 5, 2, 1], False), ([1, 5, 1, 1], False), ([-1, 4, 0, 0], False), ([None] * 4, False),
                              ([0, None, 1, 1], False), ([0, 5, None, 1], False), ([0, 5, 1, None], False),
                              ([0, 5, 1, "endless"], False), ([0, 5, True, 1], False), ([False, 5, 1, 1], False)]:
            self.assert_claim(good, opening=opening)
        self.assert_claim(True, opening=[-1, 4, 0, 0], harm=[12, 3, 5, 1])
        self.assert_claim(False, opening=[-1, 4, 0, 0], harm=[12, 3, 5, 1], wait=5)

    def test_opening_of_what_cannot_occur(self):
        earlier, later = made(4, 2), Behavior(3, [(2, 1, 4, 4, False)], [], [(2, 0), (1, 0)])
        for opening, harm, wait, good in [
            ([0, None, None], [None] * 3, 0, True), ([0, None, None], [6, None, 0], 2, True),
            ([0, 4, 0], [None] * 3, 0, False), ([0, 4, 0], [6, None, 0], 2, True), ([0, 4, 0], [6, None, 0], 1, False),
            ([0, 5, 0], [6, None, 0], 2, False), ([0, None, 0], [6, None, 0], 2, False),
            ([0, 5, None], [6, None, 0], 2, True), ([0, 5, None], [1, None, -5], 0, True),
            ([0, -9, None], [6, None, 0], 2, False), ([0, -9, None], [15, None, 9], 11, True),
        ]:
            claim = ([True] * 3, [4, 0, None], harm, opening)
            self.assertIs(check_certificate(earlier, later, wait, claim), good, claim)

    def test_back(self):
        for back, good in [([5, 0, None, None], True), ([4, 0, None, None], True), ([4, -1, None, None], True),
                           ([5, -1, None, None], False), ([6, 0, None, None], False), ([None, 0, None, None], False),
                           ([5, 1, None, None], False), ([5, None, None, None], False), ([0, 0, 0, 0], False),
                           ([0, 0, 0, -1], False), ([5, 0, "endless", None], False), ([5, False, None, None], False)]:
            self.assert_claim(good, back=back)
        # The release is 5 after the issue, so an earlier one costs as much.
        for back, wait in [([4, -1, None, None], 6), ([-1, -6, None, None], 11)]:
            self.assert_claim(True, back=back, wait=wait)
            self.assert_claim(False, back=back, wait=wait - 1)

    def test_harm(self):
        for harm, good in [
            ([11, 2, 4, 0], True), (["endless", 2, 4, 0], True), ([12, 3, 5, 1], True), ([12, 3, 5, 0], True),
            ([11, 2, 4, -1], False), ([11, 2, 3, 0], False), ([11, 1, 4, 0], False), ([10, 2, 4, 0], False),
            ([None, 2, 4, 0], False), ([11, None, 4, 0], False), ([11, 2, None, 0], False), ([11, 2, 4, None], False),
            (["endless", 2, "endless", 0], False), ([11, 2, "endless", 0], False), (["endless"] * 4, False),
            ([11, 2, 4, "never"], False), ([11, 2, 4, False], False), ([11, 2, 4, "endless"], False),
            ([11, "endless", 4, 0], False), ([99, 2, 5, 0], True), ([99, 2, 6, 0], False), ([99, 6, 5, 0], True),
            ([99, 7, 5, 0], False),
        ]:
            self.assert_claim(good, harm=harm)

    def test_harm_at_the_release(self):
        behavior = Behavior(3, [(0, 1, 3, 3, False), (1, 2, 0, 7, False)], [(2, 0)], [(0, 0)])
        for harm, wait, good in [([10, 7, 0], 7, True), ([10, 7, 0], 6, False), (["endless", "endless", 0], 99, False),
                                 ([11, 8, 0], 7, False), (["endless", 7, 0], 7, True), ([10, 7, 0], 99, True)]:
            self.assert_claim(good, [True] * 3, [3, 0, None], harm, [0, 3, 3], wait, behavior)
        # Nothing is heard here, so there need not be any harm.
        quiet = Behavior(2, [(0, 1, 3, 3, False)], [], [])
        for harm, good in [([None, None], True), ([3, 0], True), ([2, -1], True), (["endless", "endless"], False),
                           ([4, 1], False), ([0, 0], False), (["endless", 0], True)]:
            self.assert_claim(good, [True] * 2, [3, 0], harm, [0, 3], 0, quiet)

    def test_release_that_is_not_seen(self):
        behavior = Behavior(3, [(0, 2, 0, None, True)], [(2, 0), (1, 0)], [(0, 0)])
        for harm, back, good in [
            (["endless", "endless", 0], [None, 0, None], True), (["endless", None, 0], [9, 0, None], True),
            (["endless", 99, 0], [None, -5, None], True), (["endless", None, 0], [9, 0, 3], False),
            ([7, None, 0], [None, 0, None], False), (["endless", None, 0], [None, 1, None], False),
        ]:
            self.assert_claim(good, [True, False, True], back, harm, [0, None, 0], 0, behavior)

    def test_first_links(self):
        for many in [False, True]:
            behavior = Behavior(4, [(0, 2, 1, 7, many), (2, 1, 2, 2, False), (2, 3, 0, 8, False)], [(3, 0)], [(0, 0)])
            claim = ([True] * 4, [3, 0, 2, None], [15, None, 8, 0], [0, 3, 1, 1])
            for wait in [0, 5, 6, 11, 12, 13]:
                told = check_certificate(behavior, behavior, wait, claim)
                self.assertIs(told, wait >= (12 if many else 6))

    def test_link_without_an_end_beside_a_release(self):
        links = [(0, 1, 5, 9, False), (0, 2, 1, None, False)]
        behavior = Behavior(3, links, [(2, 0)], [(0, 0)])
        for harm in [["endless", None, 0], ["endless", None, -HIGH], [HIGH, None, 0], ["endless", 0, "endless"]]:
            self.assert_claim(False, [True] * 3, [5, 0, None], harm, [0, 5, 1], HIGH, behavior)
        self.assertIsNone(certificate(behavior, behavior, HIGH))

    def test_endless_harm_before_the_release_only(self):
        behavior = Behavior(3, [(0, 2, 1, None, False), (2, 1, 3, 3, False)], [(2, 0)], [(0, 0)])
        self.assert_claim(True, [True] * 3, [4, 0, 3], ["endless", None, 0], [0, 4, 1], 0, behavior)
        self.assertEqual(least_wait(behavior, behavior), 0)

    def test_rings(self):
        growing = Behavior(3, [(0, 1, 5, 5, False), (0, 2, 0, 0, False), (2, 2, 0, 1, False)], [(2, 0)], [(0, 0)])
        standing = Behavior(3, [(0, 1, 5, 5, False), (0, 2, 0, 9, False), (2, 2, 0, 0, False)], [(2, 0)], [(0, 0)])
        self.assert_claim(False, [True] * 3, [5, 0, None], [9, None, 9], [0, 5, 0], HIGH, growing)
        self.assert_claim(False, [True] * 3, [5, 0, None], ["endless", None, "endless"], [0, 5, 0], HIGH, growing)
        self.assertIsNone(certificate(growing, growing, HIGH))
        self.assert_claim(True, [True] * 3, [5, 0, None], [9, None, 0], [0, 5, 0], 4, standing)
        self.assertIs(check_certificate(standing, standing, 4, certificate(standing, standing, 4)), True)

    def test_several_ports(self):
        earlier = Behavior(3, [(0, 1, 0, 0, False), (0, 2, 0, 9, False)], [(2, 0), (2, 1), (2, 5)], [])
        later = Behavior(4, [(0, 2, 4, 4, False), (0, 3, 7, 7, False)], [], [(2, 0), (3, 0), (3, 1), (0, 9)])
        for harm, good in [(-4, True), (-5, False), (-3, True), (-7, False), (None, False), ("endless", False)]:
            claim = ([True] * 3, [0, 0, None], ["endless", None, harm], [0, None, 4, 7])
            self.assertIs(check_certificate(earlier, later, 6, claim), good)
        self.assertEqual(certificate(earlier, later, 5)[2][2], -4)

    def test_claims_of_any_value(self):
        self.assert_claim(True)
        for claim in [
            *values_but_behaviors(), session(), list(GOOD), GOOD[:3], (*GOOD, []), (GOOD,), GOOD[::-1], (None,) * 4,
            tuple(tuple(items) for items in GOOD), (session(),) * 4, ([],) * 4, ([session()] * 4,) * 4,
        ]:
            self.assertIs(check_certificate(FORK, FORK, 6, claim), False, claim)
        for at in range(4):
            for items in [*values_but_behaviors(), tuple(GOOD[at]), GOOD[at][:3], [*GOOD[at], GOOD[at][3]], [GOOD[at]],
                          [*GOOD[at][:3], session()], [*GOOD[at][:3], nested(49)]]:
                claim = (*GOOD[:at], items, *GOOD[at + 1:])
                self.assertIs(check_certificate(FORK, FORK, 6, claim), False, claim)

    def test_lengths_of_the_lists(self):
        # The last list goes with the later behavior, the others with the earlier one.
        earlier, later = made(4, 6), Behavior(5, [], [], [(0, 0)])
        claim = certificate(earlier, later, 6)
        self.assertEqual([len(items) for items in claim], [3, 3, 3, 5])
        self.assertIs(check_certificate(earlier, later, 6, claim), True)
        self.assertIs(check_certificate(later, earlier, 6, claim), False)

    def test_one_item_changed(self):
        for earlier, later in [(FORK, FORK), (session(), session()), (session(), slow()), *some_pairs(60, 5, 9, 40)]:
            wait = least_wait(earlier, later)
            for more in [0, 1, 6]:
                claim = None if wait == "endless" else certificate(earlier, later, wait + more)
                for other in [] if claim is None else [claim, *changed(claim)]:
                    told = check_certificate(earlier, later, wait + more, other)
                    self.assertIs(told, is_certificate(earlier, later, wait + more, other), (earlier.links, other))

    def test_told_exactly_if_safe(self):
        for earlier, later in some_pairs(300, 6, 12, 41):
            least = least_wait(earlier, later)
            edges = [] if least == "endless" else [least, least + 1, max(0, least - 1)]
            for wait in [0, 1, 2, 3, 5, 20, HIGH, *edges]:
                claim = certificate(earlier, later, wait)
                self.assertEqual(claim is not None, least != "endless" and wait >= least)
                self.assertEqual(claim is None, trace(earlier, later, wait) is not None)
                if claim is not None:
                    self.assertIs(check_certificate(earlier, later, wait, claim), True, (earlier.links, later.links))
                    self.assertIs(is_certificate(earlier, later, wait, claim), True, (earlier.links, later.links))

    def test_no_certificate_of_another_wait(self):
        for earlier, later in some_pairs(100, 6, 12, 42):
            least = least_wait(earlier, later)
            if least not in (0, "endless"):
                self.assertIs(check_certificate(earlier, later, least - 1, certificate(earlier, later, least)), False)

    def test_told_lists_are_new_and_differ(self):
        for behavior, wait in [(FORK, 5), (linked(2), 0), (session(), 80)]:
            first, again = certificate(behavior, behavior, wait), certificate(behavior, behavior, wait)
            self.assertIs(first.__class__, tuple)
            self.assertEqual([items.__class__ for items in first], [list] * 4)
            self.assertEqual(first, again)
            self.assertEqual(len({id(items) for items in first + again}), 8)
            for items in first:
                items.append("changed")
            self.assertEqual(certificate(behavior, behavior, wait), again)


if __name__ == "__main__":
    unittest.main()
