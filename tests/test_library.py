import random
import unittest

from reissue.behaviors import Behavior
from reissue.errors import InvalidBehavior, InvalidName, NothingToUndo, TakenName, UnknownName
from reissue.library import Library
from reissue.rules import Rule
from reissue.waits import least_wait

from samples import linked, made, nested, ping, session, slow, some_behaviors, values_but_behaviors

LETTERS = "abcdefghijklmnopqrstuvwxyz"
GOOD = ["a", "z", "ab", "zzzzzzzz", "abcdefgh", *LETTERS]
# Signs beside the small letters and others, letters of other scripts and of both sizes, blanks and digits.
BAD_SIGNS = ["A", "Z", "0", "9", "_", "-", " ", "\n", "\t", ".", "`", "{", "@", "[", "\x00", "\u00e4", "\u00df",
             "\u0131", "\u03b1", "\u0430", "\uff41", "\u00aa", "\u02b0", "\U0001d41a", "\u0301", "\ufb01", "\u00e6"]
BAD = ["", "abcdefghi", "a" * 9, "a" * 1000, *BAD_SIGNS, *["a" + sign for sign in BAD_SIGNS],
       *[sign + "a" for sign in BAD_SIGNS], *["a" + sign + "a" for sign in BAD_SIGNS]]
NO_STRINGS = [None, True, False, 0, 1, -1, 10 ** 40, [], ["a"], (), ("a",), {}, {"a": 0}, session(), Rule(1),
              nested(50)]


def library(**behaviors):
    """Return a library that keeps these behaviors."""
    found = Library()
    for name, behavior in behaviors.items():
        found.put(name, behavior)
    return found


class Point90(unittest.TestCase):
    def refuse(self, error, field, value, call, *arguments):
        with self.assertRaises(error) as caught:
            call(*arguments)
        self.assertIs(getattr(caught.exception, field), value)

    def assert_as_before(self, kept):
        self.assertEqual(kept, library(a=session(), b=slow()))
        self.assertEqual((kept.names(), kept.log()), (["a", "b"], [("put", "a"), ("put", "b")]))

    def test_put(self):
        kept = Library()
        self.assertEqual((kept.names(), len(kept), kept.log(), kept.waits()), ([], 0, [], {}))
        for at, name in enumerate(GOOD):
            if name not in kept:
                self.assertIsNone(kept.put(name, made(1, at)))
            self.assertIs(name in kept, True)
        self.assertEqual(len(kept), len(set(GOOD)))

    def test_names(self):
        for name in [*BAD, *NO_STRINGS]:
            kept = library(a=session(), b=slow())
            for behavior in [session(), None, 0]:
                self.refuse(InvalidName, "name", name, kept.put, name, behavior)
            self.assert_as_before(kept)

    def test_taken_names(self):
        for name in ["a", "b"]:
            kept = library(a=session(), b=slow())
            for behavior in [session(), slow(), None, 0]:
                self.refuse(TakenName, "name", name, kept.put, name, behavior)
            self.assert_as_before(kept)

    def test_put_no_behavior(self):
        for value in values_but_behaviors():
            kept = library(a=session(), b=slow())
            self.refuse(InvalidBehavior, "value", value, kept.put, "c", value)
            self.assert_as_before(kept)
            self.assertIs("c" in kept, False)

    def test_drop(self):
        kept = library(a=session(), b=slow(), c=ping())
        self.assertIsNone(kept.drop("b"))
        self.assertEqual((kept, kept.names(), len(kept)), (library(a=session(), c=ping()), ["a", "c"], 2))
        self.refuse(UnknownName, "name", "b", kept.drop, "b")
        self.assertIsNone(kept.put("b", ping()))
        self.assertEqual(kept, library(a=session(), b=ping(), c=ping()))

    def test_change(self):
        kept = library(a=session(), b=slow())
        self.assertIsNone(kept.change("a", ping()))
        self.assertEqual(kept, library(a=ping(), b=slow()))
        self.assertEqual((kept.behavior("a"), kept.behavior("b")), (ping(), slow()))
        self.assertEqual(kept.names(), ["a", "b"])

    def test_unknown_names(self):
        for name in ["c", "aa", "A", *BAD, *NO_STRINGS]:
            kept = library(a=session(), b=slow())
            self.refuse(UnknownName, "name", name, kept.drop, name)
            for behavior in [session(), None, 0]:
                self.refuse(UnknownName, "name", name, kept.change, name, behavior)
            self.assert_as_before(kept)

    def test_change_to_no_behavior(self):
        for value in values_but_behaviors():
            kept = library(a=session(), b=slow())
            self.refuse(InvalidBehavior, "value", value, kept.change, "a", value)
            self.assert_as_before(kept)

    def test_names_of_an_empty_library(self):
        for call in [Library().drop, Library().behavior]:
            self.refuse(UnknownName, "name", "a", call, "a")


class Point91(unittest.TestCase):
    def test_behavior(self):
        kept = library(a=session(), b=slow())
        self.assertEqual((kept.behavior("a"), kept.behavior("b")), (session(), slow()))

    def test_wait_between(self):
        kept = library(a=session(), b=slow(), c=linked(2))
        for one, other, wait in [("a", "a", 80), ("a", "b", 55), ("b", "a", 0), ("c", "a", 0), ("a", "c", 0)]:
            self.assertEqual(kept.wait_between(one, other), wait)

    def test_unknown_names(self):
        kept = library(a=session(), b=slow())
        for name in ["c", "aa", "A", *BAD, *NO_STRINGS]:
            for call, arguments in [(kept.behavior, (name,)), (kept.wait_between, (name, "a")),
                                    (kept.wait_between, ("a", name)), (kept.wait_between, (name, None)),
                                    (kept.wait_between, (name, "d"))]:
                with self.assertRaises(UnknownName) as caught:
                    call(*arguments)
                self.assertIs(caught.exception.name, name)

    def test_common_wait(self):
        self.assertEqual(Library().common_wait(), 0)
        self.assertEqual(library(a=session()).common_wait(), 80)
        self.assertEqual(library(a=slow(), b=session()).common_wait(), 80)
        self.assertEqual(library(a=slow()).common_wait(), 0)
        self.assertEqual(library(a=made(5, -5)).common_wait(), 0)
        self.assertEqual(library(a=session(), b=ping()).common_wait(), "endless")
        hears = Behavior(3, [(0, 1, 0, 0, False), (0, 2, 0, 7, False)], [(2, 3)], [])
        opens = Behavior(2, [], [], [(0, 3)])
        self.assertEqual(library(a=hears).common_wait(), 0)
        for kept in [library(a=hears, b=opens), library(a=opens, b=hears)]:
            self.assertEqual(kept.common_wait(), 7)

    def test_waits(self):
        self.assertEqual(Library().waits(), {})
        self.assertEqual(library(q=session()).waits(), {("q", "q"): 80})
        told = library(b=slow(), a=session(), c=ping()).waits()
        self.assertEqual(told.__class__, dict)
        self.assertEqual(told, {
            ("a", "a"): 80, ("a", "b"): 55, ("a", "c"): 80, ("b", "a"): 0, ("b", "b"): 0, ("b", "c"): 0,
            ("c", "a"): "endless", ("c", "b"): "endless", ("c", "c"): "endless",
        })

    def test_all_waits_agree(self):
        for turn in range(20):
            behaviors = some_behaviors(5, 5, 9, 100 + turn, 2)
            kept = library(**dict(zip("edcba", behaviors)))
            told = kept.waits()
            self.assertEqual(len(told), 25)
            for one, first in zip("edcba", behaviors):
                for other, second in zip("edcba", behaviors):
                    self.assertEqual(told[one, other], least_wait(first, second))
                    self.assertEqual(kept.wait_between(one, other), told[one, other])
            numbers = list(told.values())
            self.assertEqual(kept.common_wait(), "endless" if "endless" in numbers else max(numbers))

    def test_names_are_in_ascending_order(self):
        kept = library(b=slow(), ab=slow(), a=slow(), z=slow(), aa=slow(), zzzzzzzz=slow())
        self.assertEqual(kept.names(), ["a", "aa", "ab", "b", "z", "zzzzzzzz"])
        self.assertEqual(len(kept), 6)

    def test_in(self):
        kept = library(a=session(), ab=slow())
        for name in ["a", "ab"]:
            self.assertIs(name in kept, True)
        for name in ["b", "", "A", "aab", *NO_STRINGS, *values_but_behaviors()]:
            self.assertIs(name in kept, False)
            self.assertIs(name not in kept, True)

    def test_equal(self):
        kept = library(a=session(), b=slow())
        again = library(b=slow(), a=session())
        self.assertIs(kept == again, True)
        self.assertIs(kept != again, False)
        self.assertIs(Library() == Library(), True)
        changed = library(a=ping(), c=slow())
        changed.drop("c")
        changed.put("b", slow())
        changed.change("a", session())
        self.assertIs(changed == kept, True)
        for other in [library(a=session()), library(a=session(), b=session()), library(a=slow(), b=session()),
                      library(a=session(), c=slow()), library(a=session(), b=slow(), c=slow()), Library()]:
            self.assertIs(kept == other, False)
            self.assertIs(other == kept, False)
            self.assertIs(kept != other, True)

    def test_not_equal_to_other_objects(self):
        for kept in [Library(), library(a=session())]:
            values = [session(), Rule(1), {"a": session()}, ["a"], kept.waits(), kept.names(), kept.log()]
            for other in [*values_but_behaviors(), *values]:
                self.assertIs(kept == other, False)
                self.assertIs(other == kept, False)

    def test_order_of_the_links_counts(self):
        one, other = session(), Behavior(3, session().links[::-1], [(2, 0)], [(0, 0)])
        self.assertIs(library(a=one) == library(a=other), False)
        self.assertIs(library(a=one) == library(a=session()), True)

    def test_what_is_told_is_new(self):
        kept = library(a=session(), b=slow())
        kept.names().append("c")
        kept.log().clear()
        kept.waits().clear()
        kept.behavior("a").links.clear()
        kept.behavior("a").heard.append((2, 9))
        self.assertEqual((kept.names(), kept.log()), (["a", "b"], [("put", "a"), ("put", "b")]))
        self.assertEqual((len(kept.waits()), kept.behavior("a")), (4, session()))

    def test_lists_that_are_changed_behind(self):
        links, heard, opens = session().links, [(2, 0)], [(0, 0)]
        kept = library(a=Behavior(3, links, heard, opens))
        before = kept.waits()
        links.clear()
        heard.append((1, 0))
        opens.clear()
        self.assertEqual((kept, kept.waits(), kept.common_wait()), (library(a=session()), before, 80))


class Point92(unittest.TestCase):
    def assert_nothing_to_undo(self, kept):
        with self.assertRaises(NothingToUndo) as caught:
            kept.back()
        self.assertEqual(vars(caught.exception), {})

    def test_nothing_to_undo(self):
        kept = Library()
        self.assert_nothing_to_undo(kept)
        kept.put("a", session())
        self.assertIsNone(kept.back())
        for _ in range(2):
            self.assert_nothing_to_undo(kept)
        self.assertEqual((kept.names(), kept.log()), ([], []))

    def test_back_to_the_beginning(self):
        kept = library(a=session())
        kept.put("b", slow())
        kept.change("a", ping())
        kept.drop("b")
        kept.put("b", ping())
        self.assertEqual(kept.log(), [("put", "a"), ("put", "b"), ("change", "a"), ("drop", "b"), ("put", "b")])
        for expected in [
            library(a=ping()), library(a=ping(), b=slow()), library(a=session(), b=slow()), library(a=session()),
            Library(),
        ]:
            steps = kept.log()
            self.assertIsNone(kept.back())
            self.assertEqual((kept, kept.names()), (expected, expected.names()))
            self.assertEqual(kept.log(), steps[:-1])
        self.assert_nothing_to_undo(kept)

    def test_undone_calls_are_not_undone_again(self):
        kept = library(a=session())
        kept.change("a", slow())
        kept.back()
        kept.change("a", ping())
        self.assertEqual(kept.log(), [("put", "a"), ("change", "a")])
        kept.back()
        self.assertEqual((kept, kept.log()), (library(a=session()), [("put", "a")]))
        kept.back()
        self.assertEqual((kept, kept.log()), (Library(), []))

    def test_a_step_that_changes_nothing(self):
        kept = library(a=session())
        kept.change("a", session())
        kept.change("a", kept.behavior("a"))
        self.assertEqual(kept.log(), [("put", "a"), ("change", "a"), ("change", "a")])
        for many in [2, 1]:
            kept.back()
            self.assertEqual((kept, len(kept.log())), (library(a=session()), many))
        kept.back()
        self.assertEqual(kept, Library())

    def test_refused_calls_are_no_steps(self):
        kept = library(a=session())
        for error, call, arguments in [
            (TakenName, kept.put, ("a", slow())), (InvalidName, kept.put, ("A", slow())),
            (InvalidBehavior, kept.put, ("b", None)), (UnknownName, kept.drop, ("b",)),
            (UnknownName, kept.change, ("b", slow())), (InvalidBehavior, kept.change, ("a", None)),
        ]:
            with self.assertRaises(error):
                call(*arguments)
            self.assertEqual((kept.log(), kept), ([("put", "a")], library(a=session())))
        kept.back()
        self.assertEqual(kept, Library())

    def test_a_name_that_was_undone_is_free(self):
        kept = library(a=session())
        kept.back()
        with self.assertRaises(UnknownName):
            kept.behavior("a")
        kept.put("a", slow())
        self.assertEqual(kept, library(a=slow()))

    def test_copy(self):
        kept = library(a=session(), b=slow())
        kept.drop("b")
        other = kept.copy()
        self.assertIs(other.__class__, Library)
        self.assertIsNot(other, kept)
        self.assertEqual((other, other.log()), (kept, kept.log()))
        other.back()
        other.change("b", ping())
        other.put("c", session())
        self.assertEqual((kept, kept.log()), (library(a=session()), [("put", "a"), ("put", "b"), ("drop", "b")]))
        self.assertEqual(other, library(a=session(), b=ping(), c=session()))
        self.assertEqual(other.log(), [("put", "a"), ("put", "b"), ("change", "b"), ("put", "c")])
        kept.back()
        kept.back()
        self.assertEqual((kept, len(other)), (library(a=session()), 3))

    def test_copy_of_a_copy_goes_back_alone(self):
        kept = library(a=session())
        copies = [kept.copy(), kept.copy().copy(), kept]
        for at, one in enumerate(copies):
            one.back()
            self.assert_nothing_to_undo(one)
            self.assertEqual([len(other) for other in copies], [0] * (at + 1) + [1] * (2 - at))

    def test_against_all_states_kept(self):
        chance = random.Random(92)
        behaviors = [session(), slow(), ping(), made(2, 3)]
        for _ in range(60):
            kept, states, steps = Library(), [{}], []
            for _ in range(40):
                name, behavior = chance.choice("abc"), chance.choice(behaviors)
                self.step(chance, kept, states, steps, name, behavior)
                self.assertEqual((kept, kept.log()), (library(**states[-1]), steps))
                self.assertEqual(kept.names(), sorted(states[-1]))
                if chance.random() < 0.1:
                    kept = kept.copy()

    def step(self, chance, kept, states, steps, name, behavior):
        word = chance.choice(["put", "drop", "change", "back"])
        if word == "back":
            if not steps:
                self.assert_nothing_to_undo(kept)
            else:
                kept.back()
                states.pop()
                steps.pop()
            return
        arguments = (name,) if word == "drop" else (name, behavior)
        if (name in states[-1]) == (word == "put"):
            with self.assertRaises(TakenName if word == "put" else UnknownName):
                getattr(kept, word)(*arguments)
            return
        self.assertIsNone(getattr(kept, word)(*arguments))
        state = {one: other for one, other in states[-1].items() if one != name}
        states.append(state if word == "drop" else {**state, name: behavior})
        steps.append((word, name))


if __name__ == "__main__":
    unittest.main()
