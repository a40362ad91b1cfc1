import importlib
import inspect
import unittest

from reissue.behaviors import Behavior, is_run
from reissue.certificates import certificate, check_certificate
from reissue.errors import InvalidBehavior
from reissue.library import Library
from reissue.pools import Pool
from reissue.rules import Rule, above, is_safe, staircase, turns_for, wait_for
from reissue.times import earliest, lateness
from reissue.traces import check_trace, trace
from reissue.waits import excess, least_wait

from samples import session

ERRORS = [
    "ReissueError", "InvalidBehavior", "InvalidNumber", "InvalidRule", "InvalidList", "InvalidName", "UnknownName",
    "TakenName", "NotOut", "NoneFree", "NothingToUndo",
]
CLASSES = {
    "reissue.errors": ERRORS, "reissue.behaviors": ["Behavior"], "reissue.rules": ["Rule"], "reissue.pools": ["Pool"],
    "reissue.library": ["Library"],
}
PAIR = ["earlier", "later"]
KINDS = ["behaviors", "waits"]
POOL = ["size", "holders", "pace", "lifetime"]
FUNCTIONS = {
    "reissue.behaviors": {"is_run": ["behavior", "run"]},
    "reissue.times": {"earliest": ["behavior"], "lateness": ["behavior"]},
    "reissue.waits": {"excess": PAIR, "least_wait": PAIR},
    "reissue.traces": {"trace": [*PAIR, "wait"], "check_trace": [*PAIR, "wait", "claim"]},
    "reissue.certificates": {"certificate": [*PAIR, "wait"], "check_certificate": [*PAIR, "wait", "claim"]},
    "reissue.rules": {
        "is_safe": ["behavior", "rule"], "wait_for": ["behavior", "turns"], "turns_for": ["behavior", "wait"],
        "staircase": ["behavior", "most"], "above": ["rules"],
    },
    "reissue.kinds": {
        "are_safe": KINDS, "bad_row": KINDS, "check_bad_row": [*KINDS, "claim"], "least_entry": [*KINDS, "i", "j"],
    },
    "reissue.pools": {
        "gap": POOL, "size_for": ["behavior", "holders", "pace", "wait"], "gap_of": [*POOL, "schedule"],
        "worst_schedule": POOL,
    },
    "reissue.changes": {
        "quiet": PAIR, "slack": [*PAIR, "wait", "link"], "tight_links": PAIR, "apart": ["one", "other"],
        "check_apart": ["one", "other", "claim"],
    },
}
METHODS = {
    Pool: {"issue": ["time"], "release": ["number", "time"], "free": []},
    Library: {
        "put": ["name", "behavior"], "drop": ["name"], "change": ["name", "behavior"], "behavior": ["name"],
        "wait_between": PAIR, "common_wait": [], "waits": [], "names": [], "copy": [], "back": [], "log": [],
    },
}


class Interface(unittest.TestCase):
    def test_classes_are_defined_where_they_are_listed(self):
        for module, names in CLASSES.items():
            for name in names:
                kind = getattr(importlib.import_module(module), name)
                self.assertTrue(inspect.isclass(kind), name)
                self.assertEqual(kind.__module__, module)

    def test_functions_are_defined_where_they_are_listed(self):
        for module, functions in FUNCTIONS.items():
            for name, parameters in functions.items():
                function = getattr(importlib.import_module(module), name)
                self.assertEqual(function.__module__, module)
                self.assertEqual(list(inspect.signature(function).parameters), parameters)

    def test_behavior(self):
        self.assertEqual(list(inspect.signature(Behavior).parameters), ["events", "links", "heard", "opens"])
        for name in ["events", "links", "heard", "opens", "ISSUE", "RELEASE", "__eq__", "__contains__"]:
            self.assertIn(name, vars(Behavior))
            self.assertTrue(hasattr(session(), name))

    def test_rule(self):
        parameters = inspect.signature(Rule).parameters
        self.assertEqual(list(parameters), ["wait", "turns"])
        self.assertEqual((parameters["wait"].default, parameters["turns"].default), (inspect.Parameter.empty, 1))
        for name in ["wait", "turns", "__eq__", "__lt__", "__le__", "__gt__", "__ge__"]:
            self.assertIn(name, vars(Rule))
            self.assertTrue(hasattr(Rule(1), name))

    def test_methods_are_defined_in_their_classes(self):
        for kind, methods in METHODS.items():
            for name, parameters in methods.items():
                self.assertIn(name, vars(kind))
                self.assertEqual(list(inspect.signature(getattr(kind, name)).parameters), ["self", *parameters])
        for kind, names in [(Pool, ["__len__", "__contains__"]), (Library, ["__len__", "__contains__", "__eq__"])]:
            for name in names:
                self.assertIn(name, vars(kind))

    def test_pool_and_library(self):
        parameters = inspect.signature(Pool).parameters
        self.assertEqual(list(parameters), ["size", "order", "wait"])
        self.assertEqual([one.default for one in parameters.values()], [inspect.Parameter.empty, "oldest", 0])
        kinds = [inspect.Parameter.POSITIONAL_OR_KEYWORD, *[inspect.Parameter.KEYWORD_ONLY] * 2]
        self.assertEqual([one.kind for one in parameters.values()], kinds)
        self.assertEqual(list(inspect.signature(Library).parameters), [])


class Point1(unittest.TestCase):
    def test_by_position_and_by_name(self):
        run = [(0, None, None, 0), (1, 0, 0, 10)]
        parts = {"events": 2, "links": [(0, 1, 10, None, False)], "heard": [(1, 4)], "opens": [(0, 5)]}
        behavior = Behavior(**parts)
        self.assertEqual(behavior, Behavior(*parts.values()))
        self.assertEqual((behavior.events, behavior.links), (2, [(0, 1, 10, None, False)]))
        self.assertEqual((behavior.heard, behavior.opens), ([(1, 4)], [(0, 5)]))
        self.assertIs(is_run(behavior, run), True)
        self.assertIs(is_run(behavior=behavior, run=run), True)
        self.assertEqual(earliest(behavior=behavior), earliest(behavior))
        self.assertEqual(lateness(behavior=behavior), lateness(behavior))


class Point2(unittest.TestCase):
    def test_true_is_no_index_and_no_port(self):
        ports = [(0, 0), (0, 1), (1, 0), (1, 1), (2, 1)]
        behavior = Behavior(3, [(0, 1, 0, 0, False), (0, 2, 1, 5, False)], ports, ports)
        good = ([], [([(1, 1)], 1)], [([(0, 0)], 1)], [], 1)
        self.assertIs(check_trace(behavior, behavior, 0, good), True)
        for wrong in [
            ([], [([(True, 1)], 1)], *good[2:]), ([], [([(1, True)], 1)], *good[2:]),
            ([], [([(1, 1)], True)], *good[2:]), (*good[:2], [([(False, 0)], 1)], [], 1),
            (*good[:2], [([(0, False)], 1)], [], 1), (*good[:4], True),
        ]:
            self.assertIs(check_trace(behavior, behavior, 0, wrong), False)

    def test_true_is_no_whole_number(self):
        good = (2, [(1, 1, 1, 1, True)], [(1, 1)], [(1, 1)])
        self.assertEqual(Behavior(*good).events, 2)
        for at, wrong in [
            (0, True), (1, [(True, 1, 1, 1, True)]), (1, [(1, True, 1, 1, True)]), (1, [(1, 1, True, 1, True)]),
            (1, [(1, 1, 1, True, True)]), (1, [(1, 1, 1, 1, 1)]), (2, [(True, 1)]), (2, [(1, True)]),
            (3, [(True, 1)]), (3, [(1, True)]),
        ]:
            parts = list(good)
            parts[at] = wrong
            with self.assertRaises(InvalidBehavior, msg=wrong) as caught:
                Behavior(*parts)
            self.assertEqual(caught.exception.value, tuple(parts))

    def test_errors_hold_the_arguments_themselves(self):
        links, heard, opens = [(0, 1, 0, 0, 1)], [], []
        with self.assertRaises(InvalidBehavior) as caught:
            Behavior(2, links, heard, opens)
        links.append("later")
        self.assertEqual(caught.exception.value, (2, [(0, 1, 0, 0, 1), "later"], [], []))
        value = []
        for function in [
            earliest, lateness, lambda behavior: is_run(behavior, []), lambda behavior: excess(session(), behavior),
            lambda behavior: trace(behavior, None, None), lambda behavior: certificate(session(), behavior, None),
            lambda behavior: is_safe(behavior, None), lambda behavior: staircase(behavior, None),
        ]:
            with self.assertRaises(InvalidBehavior) as caught:
                function(value)
            self.assertIs(caught.exception.value, value)

    def test_truth_is_a_boolean(self):
        behavior = session()
        for run in [[], None, (), 0, "", {}, [(0, None, None, 0)], [()]]:
            self.assertIn(is_run(behavior, run).__class__, [bool])
        for port in [0, 1, None, [], ""]:
            self.assertIs((port in behavior).__class__, bool)
        self.assertIs((behavior == None).__class__, bool)  # noqa: E711
        self.assertIs((behavior == session()).__class__, bool)
        for claim in [None, (), [], "", trace(behavior, behavior, 3), certificate(behavior, behavior, 80)]:
            self.assertIs(check_trace(behavior, behavior, 3, claim).__class__, bool)
            self.assertIs(check_certificate(behavior, behavior, 80, claim).__class__, bool)
        for rule in [Rule(0), Rule(80), Rule(0, 60)]:
            told = [rule == Rule(80), rule < Rule(80), rule <= Rule(80), rule > Rule(80), rule >= Rule(80), rule == 80]
            self.assertEqual({one.__class__ for one in [*told, is_safe(behavior, rule)]}, {bool})

    def test_equal_arguments_give_equal_results(self):
        self.assertEqual(earliest(session()), earliest(session()))
        self.assertEqual(lateness(session()), lateness(session()))
        for function in [excess, least_wait]:
            self.assertEqual(function(session(), session()), function(session(), session()))
        for function in [trace, certificate]:
            for wait in [79, 80]:
                self.assertEqual(function(session(), session(), wait), function(session(), session(), wait))
        for function in [wait_for, turns_for, staircase]:
            self.assertEqual(function(session(), 3), function(session(), 3))
        self.assertEqual(above([Rule(9), Rule(1, 4)]), above([Rule(9), Rule(1, 4)]))


if __name__ == "__main__":
    unittest.main()
