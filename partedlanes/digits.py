"""The values of data."""

from partedlanes.checks import is_between

MOST_VALUES = 60


def are_values(values):
    """Whether the things in a list or tuple are values, and not too many."""
    return len(values) <= MOST_VALUES and all([is_between(value, 0, 2) for value in values])


def without_zeros(values):
    """The tuple of values without zeros at its end."""
    many = len(values)
    while many > 0 and values[many - 1] == 0:
        many -= 1
    return tuple(values[:many])


def are_below(digits, size):
    """Whether values are those of a program with so many of them."""
    return max(digits, default=0) < size
