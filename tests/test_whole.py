"""What points 1 and 2 promise, over the whole interface."""

import unittest

from reissue import errors
from reissue.behaviors import Behavior, is_run
from reissue.certificates import certificate, check_certificate
from reissue.changes import apart, check_apart, quiet, slack, tight_links
from reissue.kinds import are_safe, bad_row, check_bad_row, least_entry
from reissue.library import Library
from reissue.pools import Pool, gap, gap_of, size_for, worst_schedule
from reissue.rules import Rule, above, is_safe, staircase, turns_for, wait_for
from reissue.times import earliest, lateness
from reissue.traces import check_trace, trace
from reissue.waits import excess, least_wait

from samples import made, ping, session, slow, some_behaviors

RUN = [(0, None, None, 0), (1, 0, 0, 10), (2, 1, 2, 40)]
WAITS = [[79, 54, 0], [0, 3, 9], [7, 0, 2]]
POOL = {"size": 5, "holders": 2, "pace": 1, "lifetime": 5}


def pair():
    return {"earlier": session(), "later": slow()}


def kinds():
    return {"behaviors": [session(), slow(), made(3, 9)], "waits": [list(row) for row in WAITS]}


def calls():
    """Return the functions of the interface, each with arguments that are made anew."""
    both = {"one": session(), "other": slow()}
    return [
        (Behavior, {"events": 3, "links": session().links, "heard": [(2, 0)], "opens": [(0, 0)]}),
        (is_run, {"behavior": session(), "run": list(RUN)}),
        (earliest, {"behavior": session()}), (lateness, {"behavior": ping()}),
        (excess, pair()), (least_wait, pair()),
        (trace, {**pair(), "wait": 3}), (trace, {**pair(), "wait": 55}),
        (trace, {"earlier": ping(), "later": slow(), "wait": 9}),
        (check_trace, {**pair(), "wait": 3, "claim": trace(session(), slow(), 3)}),
        (certificate, {**pair(), "wait": 55}), (certificate, {**pair(), "wait": 54}),
        (check_certificate, {**pair(), "wait": 55, "claim": certificate(session(), slow(), 55)}),
        (Rule, {"wait": 2, "turns": 7}), (is_safe, {"behavior": session(), "rule": Rule(35, 2)}),
        (wait_for, {"behavior": session(), "turns": 2}), (turns_for, {"behavior": session(), "wait": 0}),
        (staircase, {"behavior": session(), "most": 9}), (above, {"rules": [Rule(1, 2), Rule(3)]}),
        (are_safe, kinds()), (bad_row, kinds()),
        (check_bad_row, {**kinds(), "claim": bad_row(*kinds().values())}), (least_entry, {**kinds(), "i": 0, "j": 1}),
        (gap, POOL), (size_for, {"behavior": session(), "holders": 2, "pace": 1, "wait": 5}), (worst_schedule, POOL),
        (gap_of, {**POOL, "schedule": worst_schedule(*POOL.values())}),
        (quiet, pair()), (slack, {**pair(), "wait": 60, "link": 1}), (tight_links, pair()), (apart, both),
        (check_apart, {**both, "claim": apart(session(), slow())}),
        (errors.InvalidBehavior, {"value": [1]}), (errors.InvalidNumber, {"value": [1]}),
        (errors.InvalidRule, {"value": [1]}), (errors.InvalidList, {"value": [1]}), (errors.InvalidName, {"name": [1]}),
        (errors.UnknownName, {"name": [1]}), (errors.TakenName, {"name": [1]}), (errors.NotOut, {"number": [1]}),
    ]


def library():
    kept = Library()
    kept.put("a", session())
    kept.put("b", slow())
    kept.change("b", made(3, 9))
    return kept


def pool():
    found = Pool(4, order="newest", wait=2)
    for time in range(3):
        found.issue(time)
    found.release(1, 3)
    return found


def method_calls():
    """Return the methods of the interface, each with what makes the object, and with its arguments."""
    return [
        (library, "put", {"name": "c", "behavior": ping()}), (library, "drop", {"name": "a"}),
        (library, "change", {"name": "a", "behavior": ping()}), (library, "behavior", {"name": "a"}),
        (library, "wait_between", {"earlier": "b", "later": "a"}), (library, "common_wait", {}), (library, "waits", {}),
        (library, "names", {}), (library, "copy", {}), (library, "back", {}), (library, "log", {}),
        (pool, "issue", {"time": 9}), (pool, "release", {"number": 2, "time": 8}), (pool, "free", {}),
    ]


def shown(value):
    """Return what a value consists of, as something that is equal only for equal values of the same kinds."""
    if isinstance(value, (list, tuple)):
        return value.__class__, [shown(item) for item in value]
    if isinstance(value, dict):
        return dict, [(shown(key), shown(value[key])) for key in value]
    if isinstance(value, Behavior):
        return Behavior, value.events, value.links, value.heard, value.opens
    if isinstance(value, Rule):
        return Rule, value.wait, value.turns
    if isinstance(value, Library):
        return Library, value.names(), [shown(value.behavior(name)) for name in value.names()], value.log()
    if isinstance(value, Pool):
        return Pool, value.free(), len(value)
    if isinstance(value, errors.ReissueError):
        return value.__class__, shown(list(vars(value).items()))
    return value.__class__, value


def lists_in(value):
    """Yield all lists and dictionaries of which a value consists, as often as they stand there."""
    if isinstance(value, (list, dict)):
        yield value
    if isinstance(value, dict):
        value = [*value, *value.values()]
    if isinstance(value, (list, tuple)):
        for item in value:
            yield from lists_in(item)


class Point1(unittest.TestCase):
    def test_functions_and_classes_by_name_in_any_order(self):
        for function, named in calls():
            told = shown(function(*named.values()))
            self.assertEqual(shown(function(**named)), told, function.__name__)
            self.assertEqual(shown(function(**dict(reversed(named.items())))), told, function.__name__)
            first, *rest = named
            self.assertEqual(shown(function(named[first], **{name: named[name] for name in reversed(rest)})), told)

    def test_methods_by_name_in_any_order(self):
        for make, name, named in method_calls():
            one, other = make(), make()
            told = shown(getattr(one, name)(*named.values()))
            self.assertEqual(shown(getattr(other, name)(**dict(reversed(named.items())))), told, name)
            self.assertEqual(shown(one), shown(other))

    def test_pool_by_name(self):
        for found in [Pool(size=4, order="newest", wait=2), Pool(wait=2, order="newest", size=4)]:
            for time in range(3):
                found.issue(time=time)
            found.release(time=3, number=1)
            self.assertEqual(shown(found), shown(pool()))
            self.assertEqual([found.issue(time=5), found.issue(time=5)], [1, 3])

    def test_other_names_are_refused(self):
        for function, named in calls():
            with self.assertRaises(TypeError):
                function(*named.values(), nothing=0)
        for make, name, named in method_calls():
            with self.assertRaises(TypeError):
                getattr(make(), name)(*named.values(), nothing=0)


class Point2(unittest.TestCase):
    def test_arguments_stay_as_they_were(self):
        for function, named in calls():
            before = shown(list(named.values()))
            function(**named)
            self.assertEqual(shown(list(named.values())), before, function.__name__)
        for make, name, named in method_calls():
            before = shown(list(named.values()))
            getattr(make(), name)(**named)
            self.assertEqual(shown(list(named.values())), before, name)

    def test_results_are_new(self):
        for function, named in calls():
            if function.__module__ != "reissue.errors":
                first, again = function(**named), function(**named)
                self.assert_new([first, again, *named.values()], 2, function.__name__)
        for make, name, named in method_calls():
            if name not in ("put", "drop", "change", "back", "issue", "release"):
                one = make()
                self.assert_new([getattr(one, name)(**named), getattr(one, name)(**named)], 2, name)

    def assert_new(self, values, told, name):
        rows = [id(found) for value in values[:told] for found in lists_in(value)]
        self.assertEqual(len(set(rows)), len(rows), name)
        others = {id(found) for value in values[told:] for found in lists_in(value)}
        self.assertEqual(others & set(rows), set(), name)

    def test_told_lists_belong_to_the_caller(self):
        for function, named in calls():
            if function.__module__ != "reissue.errors":
                told = function(**named)
                before = shown(told)
                for found in list(lists_in(told)):
                    found.clear()
                self.assertEqual(shown(function(**named)), before, function.__name__)
        for make, name, named in method_calls():
            one, other = make(), make()
            for found in list(lists_in(getattr(one, name)(**named))):
                found.clear()
            getattr(other, name)(**named)
            self.assertEqual(shown(one), shown(other), name)

    def test_the_same_question_tells_the_same_whatever_was_asked_between(self):
        first = [shown(function(**named)) for function, named in calls()]
        for behavior in some_behaviors(20, 5, 9, 2, 2):
            for other in [session(), behavior]:
                lateness(behavior)
                trace(behavior, other, 1)
                certificate(other, behavior, 1)
                apart(behavior, other)
                bad_row([behavior, other], [[1, 2], [0, 1]])
                staircase(behavior, 5)
        rows = calls()
        again = [shown(function(**named)) for function, named in reversed(rows)]
        self.assertEqual(again[::-1], first)

    def test_the_same_objects_tell_the_same_again(self):
        rows = calls()
        first = [shown(function(**named)) for function, named in rows]
        self.assertEqual([shown(function(**named)) for function, named in rows], first)

    def test_lists_in_a_behavior_are_its_own(self):
        links, heard, opens = session().links, [(2, 0)], [(0, 0)]
        behavior = Behavior(3, links, heard, opens)
        for rows in [links, heard, opens, behavior.links, behavior.heard, behavior.opens]:
            rows.clear()
        self.assertEqual(shown(behavior), shown(session()))

    def test_whether_something_is_so_is_true_or_false(self):
        behaviors, waits = kinds().values()
        claims = [None, [], (), "", 0, True, ([0, 0], None), (session(), "later"), (session(), 0)]
        for claim in [*claims, bad_row(behaviors, waits)]:
            for told in [
                check_bad_row(behaviors, waits, claim), check_apart(session(), slow(), claim),
                check_trace(session(), slow(), 3, claim), check_certificate(session(), slow(), 55, claim),
                is_run(session(), claim), claim in pool(), claim in library(), claim in session(), claim == library(),
                library() == claim, session() == claim, Rule(1) == claim,
            ]:
                self.assertIn(told.__class__, [bool])
        self.assertIs(are_safe(behaviors, waits).__class__, bool)
        self.assertIs(is_safe(session(), Rule(1)).__class__, bool)


if __name__ == "__main__":
    unittest.main()
