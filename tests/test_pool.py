import random
import unittest

from reissue.errors import InvalidNumber, NoneFree, NotOut
from reissue.pools import Pool
from reissue.rules import Rule

from samples import nested, session, values_but_behaviors

HIGH = 10 ** 40 - 1
ORDERS = ["oldest", "newest", "lowest"]
NO_TIMES = [True, False, None, "", "0", [], [0], (), (0,), {}, {0: 0}, session(), Rule(0), nested(50)]


class Model:
    """A pool that looks through the whole of what has happened each time."""

    def __init__(self, size, order, wait):
        self.size, self.order, self.wait = size, order, wait
        self.log = []

    def last(self, number):
        """Return what was done last with the identifier, as a tuple (word, place in the log, time)."""
        for at in range(len(self.log) - 1, -1, -1):
            word, one, time = self.log[at]
            if one == number:
                return word, at, time
        return "release", None, None

    def free(self):
        return [number for number in range(self.size) if self.last(number)[0] == "release"]

    def choice(self, time):
        rows = [(number, *self.last(number)[1:]) for number in self.free()]
        rows = [row for row in rows if row[1] is None or row[2] + self.wait <= time]
        new, old = [row for row in rows if row[1] is None], [row for row in rows if row[1] is not None]
        old.sort(key=lambda row: row[1])
        if self.order == "oldest":
            rows = new + old
        elif self.order == "newest":
            rows = old[::-1] + new
        return rows[0][0] if rows else None


class Starting(unittest.TestCase):
    def assert_number(self, value, *arguments, **named):
        with self.assertRaises(InvalidNumber) as caught:
            Pool(*arguments, **named)
        self.assertIs(caught.exception.value, value)

    def test_sizes(self):
        for value in [0, -1, 61, HIGH, -HIGH, *NO_TIMES]:
            self.assert_number(value, value)
            self.assert_number(value, value, order="none", wait=-1)
            self.assert_number(value, wait=None, order=None, size=value)
        for size in [1, 2, 59, 60]:
            self.assertEqual(Pool(size).free(), list(range(size)))
            self.assertEqual(len(Pool(size=size)), size)

    def test_orders(self):
        for value in [*values_but_behaviors(), session(), Rule(0), "Oldest", "oldest ", "lowes", "highest", ["oldest"],
                      ("oldest", "newest", "lowest"), "oldestnewest"]:
            self.assert_number(value, 3, order=value)
            self.assert_number(value, 3, order=value, wait=-1)
        for order in ORDERS:
            self.assertEqual(Pool(3, order=order).issue(0), 0)

    def test_waits(self):
        for value in [-1, -HIGH, *NO_TIMES]:
            for order in ORDERS:
                self.assert_number(value, 3, order=order, wait=value)
        for wait in [0, 1, HIGH]:
            self.assertEqual(Pool(3, wait=wait).issue(0), 0)

    def test_order_and_wait_only_by_name(self):
        for arguments in [(3, "oldest"), (3, "oldest", 0), (3, 0)]:
            with self.assertRaises(TypeError):
                Pool(*arguments)

    def test_what_is_not_given(self):
        pool = Pool(2)
        self.assertEqual([pool.issue(5), pool.release(0, 5), pool.issue(5), pool.release(1, 5), pool.issue(5)],
                         [0, None, 1, None, 0])


class Orders(unittest.TestCase):
    def told(self, order, wait=0):
        """Return the identifiers that come after 0 to 4 were issued, and 3, 1, 4 and 0 released at 1, 2, 2 and 3."""
        pool = Pool(7, order=order, wait=wait)
        self.assertEqual([pool.issue(0) for _ in range(5)], [0, 1, 2, 3, 4])
        for number, time in [(3, 1), (1, 2), (4, 2), (0, 3)]:
            self.assertIsNone(pool.release(number, time))
        self.assertEqual(pool.free(), [0, 1, 3, 4, 5, 6])
        return pool

    def test_oldest(self):
        pool = self.told("oldest")
        self.assertEqual([pool.issue(9) for _ in range(6)], [5, 6, 3, 1, 4, 0])

    def test_newest(self):
        pool = self.told("newest")
        self.assertEqual([pool.issue(9) for _ in range(6)], [0, 4, 1, 3, 5, 6])

    def test_lowest(self):
        pool = self.told("lowest")
        self.assertEqual([pool.issue(9) for _ in range(6)], [0, 1, 3, 4, 5, 6])

    def test_all_are_out(self):
        for order in ORDERS:
            pool = self.told(order)
            self.assertEqual(sorted(pool.issue(9) for _ in range(6)), [0, 1, 3, 4, 5, 6])
            self.assertEqual((len(pool), pool.free()), (0, []))
            for time in [9, HIGH]:
                with self.assertRaises(NoneFree):
                    pool.issue(time)

    def test_those_that_rest_are_passed_over(self):
        for order, numbers in [("oldest", [5, 6, 3, 1, 4]), ("newest", [4, 1, 3, 5, 6]), ("lowest", [1, 3, 4, 5, 6])]:
            pool = self.told(order, 4)
            # At 6 the releases at 1 and 2 are 4 or more before, that of 0 at 3 is not.
            self.assertEqual([pool.issue(6) for _ in range(5)], numbers)
            with self.assertRaises(NoneFree):
                pool.issue(6)
            self.assertEqual(pool.issue(7), 0)

    def test_those_that_were_issued_twice(self):
        for order, numbers in [("oldest", [2, 1, 0]), ("newest", [0, 1, 2]), ("lowest", [0, 1, 2])]:
            pool = Pool(3, order=order)
            self.assertEqual([pool.issue(0), pool.issue(0)], [0, 1])
            pool.release(0, 1)
            if order == "oldest":
                self.assertEqual(pool.issue(1), 2)
                pool.release(2, 1)
                self.assertEqual(pool.issue(1), 0)
            else:
                self.assertEqual(pool.issue(1), 0)
            pool.release(1, 2)
            pool.release(0, 2)
            self.assertEqual([pool.issue(2) for _ in range(3)], numbers)

    def test_released_at_the_same_time(self):
        for order, numbers in [("oldest", [2, 0, 1]), ("newest", [1, 0, 2]), ("lowest", [0, 1, 2])]:
            pool = Pool(3, order=order)
            self.assertEqual([pool.issue(7) for _ in range(3)], [0, 1, 2])
            for number in [2, 0, 1]:
                pool.release(number, 7)
            self.assertEqual([pool.issue(7) for _ in range(3)], numbers)


class Resting(unittest.TestCase):
    def test_is_not_out_but_not_handed_out(self):
        for order in ORDERS:
            pool = Pool(1, order=order, wait=5)
            self.assertEqual(pool.issue(-3), 0)
            self.assertEqual((len(pool), pool.free(), 0 in pool), (0, [], False))
            self.assertIsNone(pool.release(0, 4))
            for time in [4, 5, 8]:
                self.assertEqual((len(pool), pool.free(), 0 in pool), (1, [0], True))
                with self.assertRaises(NoneFree):
                    pool.issue(time)
            self.assertEqual((len(pool), pool.free(), 0 in pool), (1, [0], True))
            self.assertEqual(pool.issue(9), 0)

    def test_resting_one_cannot_be_taken_back(self):
        pool = Pool(2, wait=5)
        pool.issue(0)
        pool.release(0, 1)
        for number in [0, 1]:
            with self.assertRaises(NotOut) as caught:
                pool.release(number, 1)
            self.assertEqual(caught.exception.number, number)

    def test_the_last_release_counts(self):
        pool = Pool(1, wait=5)
        pool.issue(0)
        pool.release(0, 10)
        self.assertEqual(pool.issue(15), 0)
        pool.release(0, 16)
        with self.assertRaises(NoneFree):
            pool.issue(20)
        self.assertEqual(pool.issue(21), 0)

    def test_those_never_issued_do_not_rest(self):
        for order in ORDERS:
            pool = Pool(3, order=order, wait=HIGH)
            self.assertEqual([pool.issue(0) for _ in range(3)], [0, 1, 2])

    def test_long_times(self):
        pool = Pool(1, wait=HIGH)
        pool.issue(-HIGH)
        pool.release(0, -HIGH)
        with self.assertRaises(NoneFree):
            pool.issue(-1)
        self.assertEqual(pool.issue(0), 0)
        pool.release(0, HIGH)
        self.assertEqual(pool.issue(2 * HIGH), 0)


class Refused(unittest.TestCase):
    def started(self):
        pool = Pool(4, wait=2)
        self.assertEqual([pool.issue(10), pool.issue(11)], [0, 1])
        pool.release(0, 12)
        return pool

    def assert_as_before(self, pool):
        self.assertEqual((len(pool), pool.free()), (3, [0, 2, 3]))
        self.assertEqual([number in pool for number in range(4)], [True, False, True, True])
        # The times of refused calls do not count, and those that were refused have not been handed out.
        self.assertEqual([pool.issue(12), pool.issue(12)], [2, 3])
        with self.assertRaises(NoneFree):
            pool.issue(13)
        self.assertEqual(pool.issue(14), 0)

    def test_times(self):
        for value in [11, 10, 0, -1, -HIGH, *NO_TIMES]:
            pool = self.started()
            for call in [lambda: pool.issue(value), lambda: pool.issue(time=value), lambda: pool.release(1, value),
                         lambda: pool.release(time=value, number=1), lambda: pool.release("none", value),
                         lambda: pool.release(0, value), lambda: pool.release(None, value)]:
                with self.assertRaises(InvalidNumber) as caught:
                    call()
                self.assertIs(caught.exception.value, value)
            self.assert_as_before(pool)

    def test_numbers(self):
        for value in [0, 2, 3, 4, 5, -1, -3, HIGH, *NO_TIMES, "1", [1], (1,)]:
            pool = self.started()
            for time in [12, 13, HIGH]:
                with self.assertRaises(NotOut) as caught:
                    pool.release(value, time)
                self.assertIs(caught.exception.number, value)
            self.assert_as_before(pool)

    def test_true_is_no_identifier(self):
        pool = self.started()
        for value in [True, False]:
            self.assertIs(value in pool, False)
            with self.assertRaises(NotOut) as caught:
                pool.release(value, 12)
            self.assertIs(caught.exception.number, value)
        self.assertIsNone(pool.release(1, 12))

    def test_none_free(self):
        pool = self.started()
        self.assertEqual([pool.issue(12), pool.issue(12)], [2, 3])
        for _ in range(2):
            with self.assertRaises(NoneFree):
                pool.issue(13)
        # 13 was refused, so 12 is not too early.
        self.assertIsNone(pool.release(1, 12))
        self.assertEqual([pool.free(), pool.issue(14), pool.issue(14)], [[0, 1], 0, 1])

    def test_first_call_has_any_time(self):
        for time in [0, -HIGH, HIGH]:
            self.assertEqual(Pool(2).issue(time), 0)
            pool = Pool(2)
            with self.assertRaises(NotOut):
                pool.release(0, time)
            self.assertEqual(pool.issue(-HIGH), 0)
        for value in NO_TIMES:
            with self.assertRaises(InvalidNumber):
                Pool(2).issue(value)
            with self.assertRaises(InvalidNumber):
                Pool(2).release(0, value)

    def test_error_without_a_field(self):
        pool = Pool(1)
        pool.issue(0)
        with self.assertRaises(NoneFree) as caught:
            pool.issue(0)
        self.assertEqual(vars(caught.exception), {})


class Containing(unittest.TestCase):
    def test_any_value(self):
        pool = Pool(4)
        pool.issue(0)
        for value in [*values_but_behaviors(), session(), Rule(1), 4, 5, 61, "1", [1], (1,)]:
            expected = value.__class__ is int and value in (1, 2, 3)
            self.assertIs(value in pool, expected, value)
            self.assertIs(value not in pool, not expected)

    def test_free_is_new(self):
        pool = Pool(4)
        first = pool.free()
        first.clear()
        self.assertEqual((pool.free(), len(pool)), ([0, 1, 2, 3], 4))
        self.assertEqual(pool.issue(0), 0)


class All(unittest.TestCase):
    def test_against_the_model(self):
        chance = random.Random(63)
        for turn in range(150):
            size, wait = chance.choice([1, 2, 3, 5, 8, 60]), chance.choice([0, 0, 1, 3, 10])
            model = Model(size, ORDERS[turn % 3], wait)
            self.play(chance, Pool(size, order=model.order, wait=wait), model, 60)

    def play(self, chance, pool, model, calls):
        time = chance.randint(-50, 50)
        for _ in range(calls):
            time += chance.choice([0, 0, 0, 1, 2])
            number = chance.randrange(model.size)
            if chance.random() < 0.55:
                self.issue(pool, model, time)
            elif model.last(number)[0] == "release":
                with self.assertRaises(NotOut):
                    pool.release(number, time)
            else:
                self.assertIsNone(pool.release(number, time))
                model.log.append(("release", number, time))
            free = model.free()
            self.assertEqual((pool.free(), len(pool)), (free, len(free)))
            self.assertEqual([one for one in range(model.size) if one in pool], free)

    def issue(self, pool, model, time):
        expected = model.choice(time)
        if expected is None:
            with self.assertRaises(NoneFree):
                pool.issue(time)
        else:
            self.assertEqual(pool.issue(time), expected)
            model.log.append(("issue", expected, time))

    def test_two_pools_do_not_touch_each_other(self):
        one, other = Pool(3), Pool(3)
        self.assertEqual([one.issue(5), one.issue(5), other.issue(0)], [0, 1, 0])
        self.assertEqual((one.free(), other.free()), ([2], [1, 2]))


if __name__ == "__main__":
    unittest.main()
