"""Pools reckoned another way than the program does: row by row, with the identifiers that wait standing in a line."""


class Line:
    """A pool during a schedule: the identifiers that are not out in the order in which they are handed out."""

    def __init__(self, size, holders, pace, lifetime):
        self.numbers = (size, holders, pace, lifetime)
        self.waiting = list(range(size))
        self.issued = {}
        self.released = {}
        self.last_issue = None
        self.now = None
        self.gaps = []

    def copy(self):
        other = Line(*self.numbers)
        other.waiting, other.issued = list(self.waiting), dict(self.issued)
        other.released, other.gaps = dict(self.released), list(self.gaps)
        other.last_issue, other.now = self.last_issue, self.now
        return other

    def take(self, time, word, number):
        """Do what a row says, and return whether it may be done."""
        if self.now is not None and time < self.now:
            return False
        self.now = time
        return self.issue(time, number) if word == "issue" else self.release(time, number)

    def issue(self, time, number):
        _, holders, pace, _ = self.numbers
        if self.waiting[:1] != [number] or len(self.issued) == holders:
            return False
        if self.last_issue is not None and time < self.last_issue + pace:
            return False
        if number in self.released:
            self.gaps.append(time - self.released[number])
        self.waiting.pop(0)
        self.issued[number], self.last_issue = time, time
        return True

    def release(self, time, number):
        if number not in self.issued or time < self.issued[number] + self.numbers[3]:
            return False
        del self.issued[number]
        self.waiting.append(number)
        self.released[number] = time
        return True


def gap_by_rows(size, holders, pace, lifetime, schedule):
    """Return the gap of a schedule, None if there is none in it, and "wrong" for any other value."""
    if schedule.__class__ is not list:
        return "wrong"
    line = Line(size, holders, pace, lifetime)
    for row in schedule:
        if row.__class__ is not tuple or len(row) != 3 or any(row[at].__class__ is not int for at in (0, 2)):
            return "wrong"
        if row[1].__class__ is not str or row[1] not in ("issue", "release") or not line.take(*row):
            return "wrong"
    return min(line.gaps, default=None)


def all_schedules(size, holders, pace, lifetime, rows, until):
    """Yield all schedules of at most so many rows with times from 0 to `until`, each with the gaps in it."""
    found = [([], Line(size, holders, pace, lifetime))]
    while found:
        schedule, line = found.pop()
        yield schedule, line.gaps
        if len(schedule) < rows:
            for time in range(line.now or 0, until + 1):
                for word in ("issue", "release"):
                    for number in range(size):
                        longer = line.copy()
                        if longer.take(time, word, number):
                            found.append(([*schedule, (time, word, number)], longer))


def least_gap(size, holders, pace, lifetime, most):
    """Return the least gap of all schedules, however long, or `most` if it is greater.

    A state tells how long ago everything was, with one number for all times that are too long ago to matter. What was
    never released counts as released that long ago.
    """
    start = (tuple((number, most) for number in range(size)), (), pace)
    seen, ahead, least = {start}, [start], most
    while ahead:
        for after, gap in _onward(ahead.pop(), holders, pace, lifetime, most):
            least = min(least, gap)
            if after not in seen:
                seen.add(after)
                ahead.append(after)
    return least


def _onward(state, holders, pace, lifetime, most):
    """Yield the states that can come next (after a time of 1, an issue or a release), each with the gap at its end."""
    waiting, out, since = state
    later = tuple((number, min(most, age + 1)) for number, age in waiting)
    yield (later, tuple((number, min(lifetime, age + 1)) for number, age in out), min(pace, since + 1)), most
    if waiting and len(out) < holders and since == pace:
        (number, age), *rest = waiting
        yield (tuple(rest), tuple(sorted([*out, (number, 0)])), 0), age
    for at, (number, age) in enumerate(out):
        if age == lifetime:
            yield ((*waiting, (number, 0)), out[:at] + out[at + 1:], since), most
