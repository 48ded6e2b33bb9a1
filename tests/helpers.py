"""What several tests use: values of other kinds, and values that are equal to everything."""


class Everything:
    """Equal to every other value, so that a check by equality alone lets it pass."""

    def __eq__(self, other):
        return True

    def __hash__(self):
        return 0


class Hostile:
    """Cannot be shown, compared or used as a key."""

    __hash__ = None

    def __eq__(self, other):
        raise AssertionError("compared")

    def __repr__(self):
        raise AssertionError("shown")


# No integer, no text, no tuple, no list, no dict and no object of the package.
STRANGE = (None, 1.0, object(), Everything(), Hostile(), {1}, b"x", 1j, range(2), lambda: 0)

# None of these is an integer, though some are equal to one.
NO_INTEGERS = (*STRANGE, True, False, "0", "", "x", (), (0,), [], [0], {}, {0: 0}, 0.0, 2.0, slice(0, 1))


def error_of(test, kind, action):
    """The value of the exception of just this kind that the action raises."""
    try:
        action()
    except kind as error:
        test.assertIs(error.__class__, kind)
        return error.value
    test.fail(f"{kind.__name__} is not raised")


def refused(test, kind, value, action):
    """The action raises this kind of exception, which carries this very value."""
    test.assertIs(error_of(test, kind, action), value)
