import unittest

from reissue.behaviors import Behavior
from reissue.errors import InvalidBehavior, InvalidList, InvalidNumber, InvalidRule
from reissue.rules import Rule, above, is_safe, staircase, turns_for, wait_for
from reissue.times import earliest
from reissue.waits import excess

from samples import linked, made, nested, session, slow, some_behaviors, values_but_behaviors

HIGH = 10 ** 40 - 1
NO_NUMBERS = [-1, -HIGH, True, False, None, "", "1", "endless", [], [1], (), (1,), {}, session(), Rule(1), nested(50)]


def endless():
    """Return a behavior for which no wait is safe, with a lifetime of 4."""
    return Behavior(3, [(0, 1, 4, 4, False), (0, 2, 0, None, False)], [(2, 0)], [(0, 0)])


def never():
    """Return behaviors for which every wait is safe: no release, or nothing that is heard where it is opened."""
    return [
        Behavior(3, [(0, 2, 0, None, False)], [(2, 0)], [(0, 0)]), linked(2), linked(2, (0, 1, 4, 4, False)),
        linked(2, (0, 1, 0, 0, False)), Behavior(3, [(0, 1, 3, 3, False), (0, 2, 0, None, False)], [(2, 0)], [(0, 1)]),
        Behavior(3, [(1, 2, 0, None, False)], [(2, 0)], [(0, 0)]),
    ]


def some_made():
    """Return tuples of a lifetime, an excess and a behavior with these."""
    return [(life, late, made(life, late)) for life in range(5) for late in range(-life, 14)]


class Example(unittest.TestCase):
    def test_session(self):
        told = [is_safe(session(), Rule(80)), is_safe(session(), Rule(34, 2)), is_safe(session(), Rule(35, 2)),
                Rule(3) <= Rule(2, 2), staircase(session(), 9), turns_for(session(), 0), above([Rule(1, 2), Rule(3)])]
        stairs = [(1, 80), (2, 35), (3, 20), (4, 13), (5, 8), (6, 5), (7, 3), (8, 2), (9, 0)]
        self.assertEqual(told, [True, False, True, True, stairs, 9, [(2, 2), (3, 1)]])


class Point40(unittest.TestCase):
    def test_properties(self):
        for wait, turns in [(0, 1), (7, 1), (0, 60), (HIGH, HIGH)]:
            for rule in [Rule(wait, turns), Rule(turns=turns, wait=wait), Rule(wait, turns=turns)]:
                self.assertEqual((rule.wait, rule.turns), (wait, turns))
        self.assertEqual((Rule(5).wait, Rule(5).turns), (5, 1))
        self.assertEqual((Rule(wait=5).wait, Rule(wait=5).turns), (5, 1))

    def test_cannot_be_assigned(self):
        for name in ["wait", "turns"]:
            with self.assertRaises(AttributeError):
                setattr(Rule(3, 4), name, 5)

    def test_numbers(self):
        for value in NO_NUMBERS:
            for arguments in [(value,), (value, 1), (value, 0), (value, value), (3, value), (0, value)]:
                with self.assertRaises(InvalidNumber) as caught:
                    Rule(*arguments)
                self.assertIs(caught.exception.value, value)
        with self.assertRaises(InvalidNumber) as caught:
            Rule(3, 0)
        self.assertEqual(caught.exception.value, 0)

    def test_wait_first(self):
        with self.assertRaises(InvalidNumber) as caught:
            Rule(turns="no turns", wait="no wait")
        self.assertEqual(caught.exception.value, "no wait")


class Point41(unittest.TestCase):
    def test_words_of_the_document(self):
        for lifetime, late, behavior in some_made():
            self.assertEqual((earliest(behavior)[1], excess(behavior, behavior)), (lifetime, late))
            for wait in range(5):
                for turns in range(1, 5):
                    enough = late <= turns * wait + (turns - 1) * lifetime
                    self.assertIs(is_safe(behavior, Rule(wait, turns)), enough, (lifetime, late, wait, turns))

    def test_edges(self):
        for rule in [Rule(0), Rule(0, 60), Rule(3, 2), Rule(HIGH, HIGH)]:
            self.assertIs(is_safe(endless(), rule), False)
            for behavior in never():
                self.assertIs(is_safe(behavior, rule), True)
        self.assertIs(is_safe(made(0, 0), Rule(0)), True)
        self.assertIs(is_safe(made(0, 1), Rule(0, HIGH)), False)
        self.assertIs(is_safe(made(5, -5), Rule(0)), True)
        self.assertIs(is_safe(made(0, HIGH), Rule(HIGH)), True)
        self.assertIs(is_safe(made(0, HIGH), Rule(HIGH - 1)), False)

    def test_release_is_never(self):
        behavior = Behavior(3, [(0, 2, 0, None, True), (2, 2, 5, None, True)], [(2, 0), (0, 0)], [(0, 0), (2, 0)])
        self.assertIs(is_safe(behavior, Rule(0)), True)

    def test_errors_in_order(self):
        for value in values_but_behaviors():
            for rule in [Rule(1), None]:
                with self.assertRaises(InvalidBehavior) as caught:
                    is_safe(value, rule)
                self.assertIs(caught.exception.value, value)
        with self.assertRaises(InvalidBehavior):
            is_safe(Rule(1), session())
        for value in [*values_but_behaviors(), session(), [Rule(1)], (1, 1)]:
            for behavior in [session(), endless(), never()[0]]:
                with self.assertRaises(InvalidRule) as caught:
                    is_safe(behavior, value)
                self.assertIs(caught.exception.value, value)

    def test_by_name(self):
        self.assertIs(is_safe(rule=Rule(80), behavior=session()), True)

    def test_equality(self):
        self.assertTrue(Rule(3, 4) == Rule(3, 4))
        self.assertFalse(Rule(3, 4) != Rule(3, 4))
        self.assertTrue(Rule(3) == Rule(3, 1))
        for one, other in [(Rule(3, 4), Rule(4, 3)), (Rule(3, 4), Rule(3, 5)), (Rule(3, 4), Rule(2, 4)),
                           (Rule(0, 2), Rule(0, 3)), (Rule(2, 3), Rule(3, 2)), (Rule(1, 2), Rule(2, 1))]:
            self.assertFalse(one == other)
            self.assertTrue(one != other)

    def test_equality_with_other_objects(self):
        for value in [*values_but_behaviors(), session(), (3, 4), (4, 3), [3, 4], 12, object()]:
            self.assertIs(Rule(3, 4) == value, False)
            self.assertIs(value == Rule(3, 4), False)
            self.assertIs(Rule(3, 4) != value, True)

    def test_order(self):
        rules = [Rule(wait, turns) for wait in range(8) for turns in range(1, 7)]
        for one in rules:
            for other in rules:
                low = one.turns <= other.turns and one.turns * one.wait <= other.turns * other.wait
                same = (one.wait, one.turns) == (other.wait, other.turns)
                self.assertIs(one <= other, low)
                self.assertIs(other >= one, low)
                self.assertIs(one < other, low and not same)
                self.assertIs(other > one, low and not same)
                self.assertIs(one == other, same)

    def test_order_is_that_of_the_behaviors(self):
        # These lifetimes and excesses tell all of these rules apart.
        behaviors = [made(life, late) for life in (0, 1, 30) for late in range(0, 130)]
        rules = [Rule(wait, turns) for wait in (0, 1, 2, 3, 5) for turns in (1, 2, 3, 4)]
        safe = [[is_safe(behavior, rule) for behavior in behaviors] for rule in rules]
        for at, one in enumerate(rules):
            for to, other in enumerate(rules):
                told = all(safe[to][place] or not safe[at][place] for place in range(len(behaviors)))
                self.assertIs(one <= other, told, (one.wait, one.turns, other.wait, other.turns))

    def test_neither_is_at_most_the_other(self):
        for one, other in [(Rule(5), Rule(2, 2)), (Rule(1), Rule(0, 2)), (Rule(2, 3), Rule(1, 4))]:
            for two in [(one, other), (other, one)]:
                self.assertFalse(two[0] <= two[1] or two[0] < two[1] or two[0] >= two[1] or two[0] > two[1])


class Point42(unittest.TestCase):
    def test_wait_for(self):
        for lifetime, late, behavior in some_made():
            for turns in range(1, 7):
                wait = wait_for(behavior, turns)
                self.assertIs(is_safe(behavior, Rule(wait, turns)), True)
                self.assertFalse(wait > 0 and is_safe(behavior, Rule(wait - 1, turns)), (lifetime, late, turns))

    def test_turns_for(self):
        for lifetime, late, behavior in some_made():
            for wait in range(5):
                turns = turns_for(behavior, wait)
                if lifetime + wait == 0:
                    self.assertEqual(turns, 1 if late <= 0 else "endless")
                else:
                    self.assertIs(is_safe(behavior, Rule(wait, turns)), True)
                    self.assertFalse(turns > 1 and is_safe(behavior, Rule(wait, turns - 1)), (lifetime, late, wait))

    def test_edges(self):
        self.assertEqual([wait_for(endless(), 1), wait_for(endless(), HIGH)], ["endless", "endless"])
        self.assertEqual([turns_for(endless(), 0), turns_for(endless(), HIGH)], ["endless", "endless"])
        for behavior in never():
            self.assertEqual([wait_for(behavior, 1), wait_for(behavior, 60), wait_for(behavior, HIGH)], [0, 0, 0])
            self.assertEqual([turns_for(behavior, 0), turns_for(behavior, 1), turns_for(behavior, HIGH)], [1, 1, 1])
        self.assertEqual([turns_for(made(0, late), 0) for late in (0, 1, HIGH)], [1, "endless", "endless"])
        self.assertEqual([turns_for(made(0, late), 1) for late in (0, 1, 2, HIGH)], [1, 1, 2, HIGH])
        self.assertEqual([turns_for(made(1, late), 0) for late in (-1, 0, 1, 2, HIGH)], [1, 1, 2, 3, HIGH + 1])
        waits = [wait_for(made(0, HIGH), turns) for turns in (1, 2, HIGH, HIGH + 1)]
        self.assertEqual(waits, [HIGH, HIGH // 2 + 1, 1, 1])
        self.assertEqual([wait_for(made(9, 9), turns) for turns in (1, 2, 3, 60)], [9, 0, 0, 0])
        self.assertEqual([wait_for(made(9, -9), 1), turns_for(made(9, -9), 0)], [0, 1])

    def test_staircase(self):
        for _, _, behavior in [*some_made(), (0, 0, session()), *[(0, 0, behavior) for behavior in never()]]:
            waits = [wait_for(behavior, turns) for turns in range(1, 61)]
            rows = [(at + 1, wait) for at, wait in enumerate(waits) if wait not in waits[:at]]
            for most in [1, 2, 3, 7, 60]:
                self.assertEqual(staircase(behavior, most), [row for row in rows if row[0] <= most])

    def test_staircase_at_the_edges(self):
        self.assertEqual([staircase(endless(), 1), staircase(endless(), 60)], [[], []])
        for behavior in never():
            self.assertEqual([staircase(behavior, 1), staircase(behavior, 60)], [[(1, 0)], [(1, 0)]])
        self.assertEqual(staircase(made(0, 4), 60), [(1, 4), (2, 2), (4, 1)])
        self.assertEqual(staircase(made(0, 60), 60)[-1], (60, 1))
        self.assertEqual(len(staircase(made(0, HIGH), 60)), 60)

    def test_staircase_is_new(self):
        first = staircase(session(), 9)
        self.assertEqual({row.__class__ for row in first}, {tuple})
        first.clear()
        self.assertEqual(len(staircase(session(), 9)), 9)

    def test_by_name(self):
        self.assertEqual(wait_for(turns=2, behavior=session()), 35)
        self.assertEqual(turns_for(wait=0, behavior=session()), 9)
        self.assertEqual(staircase(most=2, behavior=session()), [(1, 80), (2, 35)])

    def test_no_behavior(self):
        for value in values_but_behaviors():
            for function in [wait_for, turns_for, staircase]:
                for number in [1, -1, None]:
                    with self.assertRaises(InvalidBehavior) as caught:
                        function(value, number)
                    self.assertIs(caught.exception.value, value)

    def test_no_numbers(self):
        rows = [(function, value) for function in (wait_for, turns_for, staircase) for value in NO_NUMBERS]
        for function, value in [*rows, (wait_for, 0), (staircase, 0), (staircase, 61), (staircase, HIGH)]:
            for behavior in [session(), endless(), never()[0]]:
                with self.assertRaises(InvalidNumber) as caught:
                    function(behavior, value)
                self.assertIs(caught.exception.value, value)

    def test_some_behaviors(self):
        for behavior in some_behaviors(200, 5, 9, 50, 2):
            found, lifetime = excess(behavior, behavior), earliest(behavior)[1]
            for wait in range(4):
                for turns in range(1, 5):
                    safe = "never" in (found, lifetime)
                    safe = safe or found != "endless" and found <= turns * wait + (turns - 1) * lifetime
                    self.assertIs(is_safe(behavior, Rule(wait, turns)), safe, behavior.links)
                    self.assertIs(wait_for(behavior, turns) != "endless" and wait_for(behavior, turns) <= wait, safe)
                    self.assertIs(turns_for(behavior, wait) != "endless" and turns_for(behavior, wait) <= turns, safe)


class Point43(unittest.TestCase):
    def test_against_all_rules(self):
        some = [(0, 1), (3, 1), (1, 2), (0, 5), (7, 1), (2, 3), (5, 2), (1, 1), (12, 1), (4, 4)]
        for first in some:
            for second in some:
                for third in some[:3]:
                    rules = [Rule(*first), Rule(*second), Rule(*third)]
                    # A least number of turns is at most 16, and a wait at most 16, if no given product is above 16.
                    over = [Rule(wait, turns) for turns in range(1, 18) for wait in range(18)]
                    over = [rule for rule in over if all(one <= rule for one in rules)]
                    least = [rule for rule in over if not any(other < rule for other in over)]
                    self.assertEqual(above(rules), sorted((rule.turns, rule.wait) for rule in least))

    def test_one_rule(self):
        for wait, turns in [(0, 1), (0, 7), (7, 1), (5, 3), (10000, 1), (1, 10000), (0, HIGH)]:
            self.assertEqual(above([Rule(wait, turns)]), [(turns, wait)])
            self.assertEqual(above([Rule(wait, turns)] * 20), [(turns, wait)])

    def test_several(self):
        self.assertEqual(above([Rule(5), Rule(0, 2)]), [(2, 3), (5, 1)])
        self.assertEqual(above([Rule(0, 2), Rule(5)]), [(2, 3), (5, 1)])
        self.assertEqual(above([Rule(6), Rule(0, 4)]), [(4, 2), (6, 1)])
        self.assertEqual(above([Rule(0, HIGH), Rule(10000)]), [(HIGH, 1)])
        self.assertEqual(above([Rule(0, HIGH), Rule(0)]), [(HIGH, 0)])

    def test_each_is_above_and_none_is_at_most_another(self):
        rules = [Rule(9973), Rule(0, 70), Rule(3, 33)]
        rows = above(rules)
        self.assertEqual(rows, sorted(set(rows)))
        found = [Rule(wait, turns) for turns, wait in rows]
        self.assertTrue(all(rule <= one for one in found for rule in rules))
        self.assertEqual([[one <= other for other in found] for one in found],
                         [[at == to for to in range(len(found))] for at in range(len(found))])
        self.assertEqual((rows[0], rows[-1]), ((70, 143), (9973, 1)))

    def test_long_lists_and_great_products(self):
        for rules in [[Rule(500, 20)] * 20, [Rule(10000)], [Rule(2, 5000)], [Rule(0, 10001)]]:
            self.assertIs(above(rules).__class__, list)

    def test_wrong_lists(self):
        for value in [
            *values_but_behaviors(), session(), Rule(1), (Rule(1),), [Rule(1), None], [Rule(1), 1], [session()],
            [[Rule(1)]], [(1, 1)], [Rule(1)] * 21, [Rule(10001)], [Rule(5001, 2)], [Rule(1), Rule(1, 10001)],
            [Rule(HIGH, HIGH)], {0: Rule(1)}, "rule",
        ]:
            with self.assertRaises(InvalidList) as caught:
                above(value)
            self.assertIs(caught.exception.value, value)

    def test_nothing_is_changed(self):
        rules = [Rule(5), Rule(0, 2)]
        first = above(rules)
        self.assertEqual(rules, [Rule(5), Rule(0, 2)])
        first.clear()
        self.assertEqual(above(rules=rules), [(2, 3), (5, 1)])


class Lifetimes(unittest.TestCase):
    def test_long_lifetime_instead_of_a_wait(self):
        self.assertEqual(earliest(slow())[1], 25)
        behavior = made(25, 60)
        self.assertEqual([wait_for(behavior, turns) for turns in (1, 2, 3, 4)], [60, 18, 4, 0])
        self.assertEqual([turns_for(behavior, wait) for wait in (0, 3, 4, 17, 18, 59, 60)], [4, 4, 3, 3, 2, 2, 1])


if __name__ == "__main__":
    unittest.main()
