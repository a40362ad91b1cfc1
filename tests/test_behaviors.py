import unittest

from reissue.behaviors import Behavior
from reissue.errors import InvalidBehavior

from samples import nested, session, values_but_behaviors

EVENTS, LINKS, HEARD, OPENS = 3, [(0, 1, 1, 4, False), (1, 2, 0, None, True)], [(2, 0), (2, 1)], [(0, 0)]


class Point10(unittest.TestCase):
    def assert_invalid(self, events=EVENTS, links=LINKS, heard=HEARD, opens=OPENS):
        with self.assertRaises(InvalidBehavior) as caught:
            Behavior(events, links, heard, opens)
        value = caught.exception.value
        self.assertIs(value.__class__, tuple)
        self.assertEqual(len(value), 4)
        for held, given in zip(value, (events, links, heard, opens)):
            self.assertIs(held, given)

    def assert_invalid_link(self, *link):
        self.assert_invalid(links=[link])
        self.assert_invalid(links=[*LINKS, link])

    def assert_invalid_ports(self, rows):
        self.assert_invalid(heard=rows)
        self.assert_invalid(opens=rows)

    def test_ordinary(self):
        behavior = Behavior(EVENTS, LINKS, HEARD, OPENS)
        self.assertEqual(behavior.links, LINKS)

    def test_by_name(self):
        named = Behavior(opens=OPENS, heard=HEARD, links=LINKS, events=EVENTS)
        self.assertEqual(named, Behavior(EVENTS, LINKS, HEARD, OPENS))

    def test_issue_and_release(self):
        self.assertEqual((Behavior.ISSUE, Behavior.RELEASE), (0, 1))
        self.assertEqual((session().ISSUE, session().RELEASE), (0, 1))

    def test_edges_that_are_allowed(self):
        self.assertEqual(Behavior(2, [], [], []).events, 2)
        for link in [
            (0, 1, 0, 0, False), (0, 2, 5, 5, True), (1, 1, 0, None, True), (2, 2, 1, None, False), (2, 1, 3, 4, False),
        ]:
            self.assertEqual(Behavior(3, [link], [], []).links, [link])
        self.assertEqual(Behavior(3, [(0, 1, 2, 3, True)] * 2, [], []).links, [(0, 1, 2, 3, True)] * 2)
        same = [(0, 0), (0, 1), (1, 0), (2, 10 ** 40)]
        both = Behavior(3, [], same, same)
        self.assertEqual((both.heard, both.opens), (same, same))

    def test_events(self):
        for events in [1, 0, -1, -(10 ** 40), True, False, None, "3", [3], (3,), {}, session()]:
            self.assert_invalid(events=events, links=[], heard=[], opens=[])

    def test_events_too_few_for_the_others(self):
        self.assert_invalid(events=2)
        self.assert_invalid(events=2, heard=[])
        self.assert_invalid(events=2, links=[])

    def test_values_of_every_kind(self):
        for value in [*values_but_behaviors(), session()]:
            if value != []:
                self.assert_invalid(links=value)
                self.assert_invalid_ports(value)
            self.assert_invalid_link(value)
            for at in range(5):
                link = list(LINKS[0])
                link[at] = value
                allowed = [int, int, int, (int, None.__class__), bool][at]
                if not isinstance(value, allowed) or at < 4 and isinstance(value, bool):
                    self.assert_invalid_link(*link)

    def test_lists_that_are_tuples(self):
        self.assert_invalid(links=tuple(LINKS))
        self.assert_invalid_ports(tuple(HEARD))
        self.assert_invalid(links=())
        self.assert_invalid_ports(())

    def test_tuples_that_are_lists(self):
        self.assert_invalid(links=[[0, 1, 1, 4, False]])
        self.assert_invalid(links=[LINKS[0], list(LINKS[1])])
        self.assert_invalid_ports([[2, 0]])
        self.assert_invalid_ports([(2, 0), [2, 1]])

    def test_link_of_another_length(self):
        self.assert_invalid_link()
        self.assert_invalid_link(0, 1, 1, 4)
        self.assert_invalid_link(0, 1, 1, 4, False, False)

    def test_cause(self):
        for cause in [3, 30, -1, -3, True, False, None, "0", (0,), [0]]:
            self.assert_invalid_link(cause, 1, 1, 4, False)

    def test_effect(self):
        for effect in [Behavior.ISSUE, 3, 30, -1, -2, True, False, None, "1", (1,), [1]]:
            self.assert_invalid_link(0, effect, 1, 4, False)
        self.assert_invalid_link(0, 0, 0, 0, True)

    def test_least(self):
        for least in [-1, -(10 ** 40), True, False, None, "1", (1,), [1], {}]:
            self.assert_invalid_link(0, 1, least, 4, False)
            self.assert_invalid_link(0, 1, least, None, False)

    def test_most(self):
        for most in [1, 0, -1, -3, True, False, "endless", "4", (4,), [4], {}]:
            self.assert_invalid_link(0, 1, 2, most, False)
        self.assert_invalid_link(0, 1, 1, True, False)
        self.assert_invalid_link(0, 1, 0, False, False)

    def test_many(self):
        for many in [0, 1, None, "", "True", [], [True], (True,)]:
            self.assert_invalid_link(0, 1, 1, 4, many)

    def test_port_rows(self):
        for row in [
            (), (2,), (2, 0, 0), (3, 0), (-1, 0), (30, 0), (True, 0), (False, 0), (None, 0), ("2", 0), ((2,), 0),
            (2, -1), (2, -(10 ** 40)), (2, True), (2, False), (2, None), (2, "0"), (2, (0,)), (2, [0]), ([2], 0),
        ]:
            self.assert_invalid_ports([row])
            self.assert_invalid_ports([(0, 5), row])
            self.assert_invalid_ports([row, (0, 5)])

    def test_port_row_twice(self):
        self.assert_invalid_ports([(2, 0), (2, 0)])
        self.assert_invalid_ports([(2, 0), (0, 0), (2, 1), (0, 0)])

    def test_last_row_counts(self):
        good = [(0, 1, 0, 1, True)] * 59
        self.assert_invalid(links=[*good, (0, 1, 1, 0, True)])
        ports = [(event, port) for event in range(3) for port in range(21)]
        self.assert_invalid_ports([*ports, (2, 20)])


class Point11(unittest.TestCase):
    def test_properties(self):
        behavior = Behavior(3, [(1, 2, 0, None, True), (0, 1, 1, 4, False)], [(2, 1), (0, 9), (2, 0)], [(1, 3), (0, 4)])
        self.assertEqual(behavior.events, 3)
        self.assertEqual(behavior.links, [(1, 2, 0, None, True), (0, 1, 1, 4, False)])
        self.assertEqual(behavior.heard, [(0, 9), (2, 0), (2, 1)])
        self.assertEqual(behavior.opens, [(0, 4), (1, 3)])

    def test_kinds_of_values(self):
        behavior = session()
        for rows in [behavior.links, behavior.heard, behavior.opens]:
            self.assertIs(rows.__class__, list)
            self.assertEqual({row.__class__ for row in rows}, {tuple})

    def test_lists_are_new(self):
        behavior = session()
        for name in ["links", "heard", "opens"]:
            first = getattr(behavior, name)
            self.assertIsNot(first, getattr(behavior, name))
            first.append((0, 0))
            del first[0]
            self.assertEqual(getattr(behavior, name), getattr(session(), name))
        self.assertEqual(behavior, session())
        self.assertNotIn(7, behavior)

    def test_arguments_stay_and_can_be_changed(self):
        links, heard, opens = [(0, 1, 0, 1, True)], [(1, 5), (0, 3)], [(1, 4), (0, 2)]
        behavior = Behavior(2, links, heard, opens)
        self.assertEqual((links, heard, opens), ([(0, 1, 0, 1, True)], [(1, 5), (0, 3)], [(1, 4), (0, 2)]))
        links.append((1, 1, 0, 0, False))
        heard.append((1, 6))
        opens.clear()
        self.assertEqual(behavior, Behavior(2, [(0, 1, 0, 1, True)], [(0, 3), (1, 5)], [(0, 2), (1, 4)]))
        self.assertNotIn(6, behavior)
        self.assertIn(4, behavior)

    def test_cannot_be_assigned(self):
        behavior = session()
        for name in ["events", "links", "heard", "opens"]:
            with self.assertRaises(AttributeError):
                setattr(behavior, name, getattr(behavior, name))

    def test_equality(self):
        self.assertTrue(session() == session())
        self.assertFalse(session() != session())
        base = Behavior(EVENTS, LINKS, HEARD, OPENS)
        self.assertEqual(base, Behavior(EVENTS, list(LINKS), HEARD[::-1], OPENS[::-1]))
        for other in [
            Behavior(4, LINKS, HEARD, OPENS), Behavior(EVENTS, LINKS[:1], HEARD, OPENS),
            Behavior(EVENTS, LINKS[::-1], HEARD, OPENS), Behavior(EVENTS, LINKS + LINKS, HEARD, OPENS),
            Behavior(EVENTS, [(0, 1, 1, 4, True), LINKS[1]], HEARD, OPENS),
            Behavior(EVENTS, [(0, 1, 1, None, False), LINKS[1]], HEARD, OPENS),
            Behavior(EVENTS, LINKS, HEARD[:1], OPENS), Behavior(EVENTS, LINKS, HEARD, []),
            Behavior(EVENTS, LINKS, OPENS, HEARD),
        ]:
            self.assertFalse(base == other)
            self.assertTrue(base != other)
            self.assertFalse(other == base)

    def test_equality_with_other_objects(self):
        base = session()
        parts = (base.events, base.links, base.heard, base.opens)
        for other in [*values_but_behaviors(), parts, list(parts), object()]:
            self.assertFalse(base == other)
            self.assertFalse(other == base)
            self.assertTrue(base != other)

    def test_ports(self):
        behavior = Behavior(3, [], [(2, 1), (0, 7)], [(1, 3), (2, 7), (0, 20)])
        self.assertEqual([port for port in range(30) if port in behavior], [1, 3, 7, 20])
        self.assertIs(3 in behavior, True)
        self.assertIs(2 in behavior, False)
        self.assertIs(2 not in behavior, True)

    def test_other_values_are_no_ports(self):
        behavior = Behavior(2, [], [(0, 0), (0, 1), (1, 3)], [(0, 2)])
        for value in [None, True, False, "0", "", -1, 4, 10 ** 40, [], [0], (), (0,), (0, 0), {}, {0: 0}, behavior,
                      [behavior], nested(50)]:
            self.assertIs(value in behavior, False)

    def test_other_behavior_has_no_ports(self):
        self.assertFalse(any(port in Behavior(2, [], [], []) for port in range(21)))


if __name__ == "__main__":
    unittest.main()
