"""Libraries: behaviors that are kept by names."""

from reissue.behaviors import check_behavior
from reissue.errors import InvalidName, NothingToUndo, TakenName, UnknownName
from reissue.lengths import greater
from reissue.waits import least_wait, waits_between

LONGEST_NAME = 8
PUT = "put"
DROP = "drop"
CHANGE = "change"


class Library:
    """Behaviors by names, and the steps by which they came there, which can be undone."""

    def __init__(self):
        self._kept = {}
        # Tuples (word, name, before) with the behavior that was kept before the step, or None.
        self._steps = []

    def put(self, name, behavior):
        """Keep one more behavior."""
        if not _is_name(name):
            raise InvalidName(name)
        if name in self._kept:
            raise TakenName(name)
        check_behavior(behavior)
        self._steps.append((PUT, name, None))
        self._kept[name] = behavior

    def drop(self, name):
        """Take a behavior out."""
        _check_kept(self._kept, name)
        self._steps.append((DROP, name, self._kept[name]))
        del self._kept[name]

    def change(self, name, behavior):
        """Replace a kept behavior."""
        _check_kept(self._kept, name)
        check_behavior(behavior)
        self._steps.append((CHANGE, name, self._kept[name]))
        self._kept[name] = behavior

    def behavior(self, name):
        """Return the behavior that is kept by the name."""
        _check_kept(self._kept, name)
        return self._kept[name]

    def wait_between(self, earlier, later):
        """Return the least safe wait for two names."""
        _check_kept(self._kept, earlier)
        _check_kept(self._kept, later)
        return least_wait(self._kept[earlier], self._kept[later])

    def common_wait(self):
        """Return the least wait that is safe for every two of the behaviors."""
        least = 0
        for row in waits_between(list(self._kept.values())):
            for wait in row:
                least = greater(least, wait)
        return least

    def waits(self):
        """Return a dictionary with the least safe wait for each tuple of two names."""
        names = self.names()
        rows = waits_between([self._kept[name] for name in names])
        return {(one, other): wait for one, row in zip(names, rows) for other, wait in zip(names, row)}

    def names(self):
        """Return the list of the names in ascending order."""
        return sorted(set(self._kept))

    def copy(self):
        """Return an independent library with the same names and the same steps to undo."""
        other = Library()
        other._kept = dict(self._kept)
        other._steps = list(self._steps)
        return other

    def back(self):
        """Undo the last step that has not been undone."""
        if not self._steps:
            raise NothingToUndo()
        _, name, before = self._steps.pop()
        if before is None:
            del self._kept[name]
        else:
            self._kept[name] = before

    def log(self):
        """Return the list of the steps as tuples (word, name), without those that were undone."""
        return [(word, name) for word, name, _ in self._steps]

    def __len__(self):
        return len(self._kept)

    def __contains__(self, name):
        return _is_kept(self._kept, name)

    def __eq__(self, other):
        return isinstance(other, Library) and self._kept == other._kept


def _is_name(value):
    """Return whether the value is a string that can be a name."""
    if not isinstance(value, str) or not 1 <= len(value) <= LONGEST_NAME:
        return False
    return all(["a" <= letter <= "z" for letter in value])


def _is_kept(kept, value):
    """Return whether the value is one of the kept names."""
    return isinstance(value, str) and value in kept


def _check_kept(kept, value):
    """Raise UnknownName unless the value is one of the kept names."""
    if not _is_kept(kept, value):
        raise UnknownName(value)
