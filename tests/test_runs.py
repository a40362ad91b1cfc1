import unittest

from reissue.behaviors import Behavior, is_run
from reissue.errors import InvalidBehavior

from samples import linked, nested, session, values_but_behaviors

START = (0, None, None, 0)


class Point12(unittest.TestCase):
    def test_example(self):
        behavior = session()
        self.assertIs(is_run(behavior, [START, (1, 0, 0, 10), (2, 1, 2, 40)]), True)
        self.assertIs(is_run(behavior, [START, (1, 0, 0, 9)]), False)
        self.assertIs(0 in behavior, True)
        self.assertIs(1 in behavior, False)

    def test_by_name(self):
        self.assertIs(is_run(run=[START], behavior=session()), True)

    def test_first_occurrence(self):
        self.assertIs(is_run(session(), [START]), True)
        for row in [
            (1, None, None, 0), (False, None, None, 0), (0, 0, None, 0), (0, None, 0, 0), (0, False, None, 0),
            (0, None, None, 1), (0, None, None, -1), (0, None, None, False), (0, None, None, None), (None,) * 4,
            (0, None, None), (0, None, None, 0, 0), [0, None, None, 0], (0, session(), None, 0), (0, None, {}, 0),
        ]:
            self.assertIs(is_run(session(), [row]), False, row)
            self.assertIs(is_run(session(), [row, (1, 0, 0, 10)]), False, row)
        self.assertIs(is_run(session(), [START, START]), False)
        self.assertIs(is_run(session(), [(1, 0, 0, 10), START]), False)

    def test_delays(self):
        behavior = linked(3, (0, 1, 3, 5, True), (1, 2, 0, 0, True), (1, 2, 4, None, True))
        for time in range(-1, 9):
            self.assertIs(is_run(behavior, [START, (1, 0, 0, time)]), 3 <= time <= 5)
            self.assertIs(is_run(behavior, [START, (1, 0, 0, 4), (2, 1, 1, time)]), time == 4)
        for time in range(0, 20):
            self.assertIs(is_run(behavior, [START, (1, 0, 0, 4), (2, 1, 2, time)]), time >= 8)
        self.assertIs(is_run(behavior, [START, (1, 0, 0, 4), (2, 1, 2, 10 ** 40)]), True)

    def test_times_need_not_ascend(self):
        run = [START, (2, 0, 1, 90), (1, 0, 0, 10), (2, 0, 1, 5), (2, 2, 2, 15)]
        self.assertIs(is_run(session(), run), True)

    def test_one_part_wrong(self):
        behavior = linked(4, (0, 2, 1, 9, True), (2, 3, 1, 9, True), (0, 3, 1, 9, True), (3, 1, 1, None, True))
        run = [START, (2, 0, 0, 5), (3, 1, 1, 8), (1, 2, 3, 20)]
        self.assertIs(is_run(behavior, run), True)
        wrong = {
            1: [(3, 0, 0, 5), (4, 0, 0, 5), (-2, 0, 0, 5), (2, 1, 0, 5), (2, -1, 0, 5), (2, 2, 0, 5), (2, None, 0, 5),
                (2, False, 0, 5), (2, 0, 1, 5), (2, 0, 2, 5), (2, 0, 4, 5), (2, 0, -4, 5), (2, 0, False, 5),
                (2, 0, None, 5), (2, 0, 0, 0), (2, 0, 0, 10), (2, 0, 0, None), (2, 0, 0, "5"), (None, 0, 0, 5),
                ("2", 0, 0, 5), (2, "0", 0, 5), (2, 0, "0", 5), (2, [0], 0, 5), (2, 0, [0], 5), ([2], 0, 0, 5),
                (2, 0, 0, [5]), (2, (0,), 0, 5), (2, {}, {}, 5), (2, 0, 0), (2, 0, 0, 5, 5), [2, 0, 0, 5], 2, None],
            2: [(3, 0, 1, 8), (2, 1, 1, 8), (3, 2, 1, 8), (3, 3, 1, 8), (3, 1, 2, 8), (3, 1, 1, 5), (3, 1, 1, 15),
                (3, True, 1, 8), (3, 1, True, 8), (3, 1, 1, True)],
            3: [(True, 2, 3, 20), (0, 2, 3, 20), (1, 1, 3, 20), (1, 0, 3, 20), (1, 2, 3, 8), (1, 2, -1, 20)],
        }
        for at, rows in wrong.items():
            for row in rows:
                changed = list(run)
                changed[at] = row
                self.assertIs(is_run(behavior, changed), False, row)
        self.assertIs(is_run(behavior, [START, (3, 0, 2, 8), (2, 0, 0, 5)]), True)

    def test_true_is_no_time(self):
        behavior = linked(2, (0, 1, 0, 1, True), (1, 1, 0, 1, True))
        self.assertIs(is_run(behavior, [START, (1, 0, 0, 1)]), True)
        for row in [(1, 0, 0, True), (1, 0, 0, False), (True, 0, 0, 1), (1, False, 0, 1), (1, 0, False, 1)]:
            self.assertIs(is_run(behavior, [START, row]), False, row)
        self.assertIs(is_run(behavior, [START, (1, 0, 0, 1), (1, True, 1, 1)]), False)
        self.assertIs(is_run(behavior, [START, (1, 0, 0, 1), (1, 1, True, 1)]), False)

    def test_cause_comes_before_in_the_list(self):
        behavior = linked(3, (0, 1, 1, 1, True), (1, 2, 1, 1, True), (1, 1, 0, 0, True))
        self.assertIs(is_run(behavior, [START, (1, 0, 0, 1), (2, 1, 1, 2)]), True)
        self.assertIs(is_run(behavior, [START, (2, 2, 1, 2), (1, 0, 0, 1)]), False)
        self.assertIs(is_run(behavior, [START, (1, 1, 2, 0)]), False)

    def test_link_that_is_not_many(self):
        for many in [False, True]:
            behavior = linked(3, (0, 1, 1, 9, many), (1, 2, 1, 9, False), (0, 1, 1, 9, many))
            self.assertIs(is_run(behavior, [START, (1, 0, 0, 2), (1, 0, 0, 3)]), many)
            self.assertIs(is_run(behavior, [START, (1, 0, 0, 2), (1, 0, 2, 2), (1, 0, 0, 2)]), many)
            # Another link with the same parts, and the same link with another cause, are counted on their own.
            two = [START, (1, 0, 0, 2), (1, 0, 2, 3)]
            self.assertIs(is_run(behavior, two), True)
            self.assertIs(is_run(behavior, [*two, (2, 1, 1, 4), (2, 2, 1, 4)]), True)
            self.assertIs(is_run(behavior, [*two, (2, 1, 1, 4), (2, 1, 1, 5)]), False)

    def test_no_runs(self):
        for value in [*values_but_behaviors(), session(), (START,), [START, None], [START, [1, 0, 0, 10]], [[START]],
                      {0: START}, [START, session()], nested(50)]:
            self.assertIs(is_run(session(), value), False)

    def test_behavior_is_checked_first(self):
        for value in values_but_behaviors():
            for run in [[START], [], None]:
                with self.assertRaises(InvalidBehavior) as caught:
                    is_run(value, run)
                self.assertIs(caught.exception.value, value)

    def test_nothing_is_changed(self):
        behavior, run = session(), [START, (1, 0, 0, 10), (2, 1, 2, 40)]
        is_run(behavior, run)
        self.assertEqual(behavior, session())
        self.assertEqual(run, [START, (1, 0, 0, 10), (2, 1, 2, 40)])

    def test_behavior_without_links(self):
        self.assertIs(is_run(Behavior(2, [], [], []), [START]), True)
        self.assertIs(is_run(Behavior(2, [], [], []), [START, (1, 0, 0, 0)]), False)


if __name__ == "__main__":
    unittest.main()
