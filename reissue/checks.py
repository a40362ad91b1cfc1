"""What kind of number a value is."""

from reissue.errors import InvalidNumber


def is_whole(value):
    """Return whether the value is a whole number."""
    # A Boolean counts as an integer in Python, but not here.
    return isinstance(value, int) and not isinstance(value, bool)


def is_at_least(value, low):
    """Return whether the value is a whole number that is not below the given one."""
    return is_whole(value) and value >= low


def is_index(value, size):
    """Return whether the value is the index of one of that many items."""
    return is_at_least(value, 0) and value < size


def check_at_least(value, low):
    """Raise InvalidNumber unless the value is a whole number that is not below the given one."""
    if not is_at_least(value, low):
        raise InvalidNumber(value)


def check_index(value, size):
    """Raise InvalidNumber unless the value is the index of one of that many items."""
    if not is_index(value, size):
        raise InvalidNumber(value)
