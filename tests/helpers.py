"""What several tests use: values of other kinds, values that are equal to everything, and times."""

import time


class Everything:
    """Equal to every other value, so that a check by equality alone lets it pass."""

    def __eq__(self, other):
        return True

    def __hash__(self):
        return 0


class Hostile:
    """Cannot be shown, compared or used as a key."""

    __hash__ = None

    def __eq__(self, other):
        raise AssertionError("compared")

    def __repr__(self):
        raise AssertionError("shown")


# No integer, no text, no tuple, no list, no dict and no object of the package.
STRANGE = (None, 1.0, object(), Everything(), Hostile(), {1}, b"x", 1j, range(2), lambda: 0)

# None of these is an integer, though some are equal to one.
NO_INTEGERS = (*STRANGE, True, False, "0", "", "x", (), (0,), [], [0], {}, {0: 0}, 0.0, 2.0, slice(0, 1))


def error_of(test, kind, action):
    """The value of the exception of just this kind that the action raises."""
    try:
        action()
    except kind as error:
        test.assertIs(error.__class__, kind)
        return error.value
    test.fail(f"{kind.__name__} is not raised")


def refused(test, kind, value, action):
    """The action raises this kind of exception, which carries this very value."""
    test.assertIs(error_of(test, kind, action), value)


def spent(action):
    """How long an action takes."""
    start = time.perf_counter()
    action()
    return time.perf_counter() - start


def plain_work():
    """Plain work of lists, tuples and dicts, the time of which tells how fast all goes here."""
    found = {}
    for number in range(20000):
        parts = tuple([part for part in (number, number + 1, number % 7) if part != 3])
        found[parts[-1]] = [*found.get(parts[-1], [])[-4:], parts]


def times_of(action):
    """The least times that an action and plain work take, of five times each, one beside the other."""
    times = [(spent(action), spent(plain_work)) for _ in range(5)]
    return min(one for one, _ in times), min(other for _, other in times)
