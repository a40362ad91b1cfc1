"""The errors of functions that take an earlier and a later behavior and a wait."""

from reissue.errors import InvalidBehavior, InvalidNumber

from samples import nested, session, slow, values_but_behaviors


def assert_arguments_are_checked(test, function):
    """Check that the first of the three arguments that does not fit is held by the error, whatever the others are."""
    for value in values_but_behaviors():
        for arguments in [(value, session(), 3), (session(), value, 3), (value, None, -1), (session(), value, -1)]:
            with test.assertRaises(InvalidBehavior) as caught:
                function(*arguments)
            test.assertIs(caught.exception.value, value)
    for wait in [-1, -(10 ** 40), True, False, None, "0", [0], (0,), {}, session(), nested(50)]:
        with test.assertRaises(InvalidNumber) as caught:
            function(session(), slow(), wait)
        test.assertIs(caught.exception.value, wait)
