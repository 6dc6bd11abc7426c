"""Questions about a value of which nothing is known yet."""


def is_integer(value):
    """Return whether the value is an int that is not a bool."""
    return isinstance(value, int) and not isinstance(value, bool)


def is_between(value, least, most):
    """Return whether the value is an integer from least to most, both included."""
    return is_integer(value) and least <= value <= most


def is_tuple_of(value, size):
    """Return whether the value is a tuple with this number of parts."""
    return isinstance(value, tuple) and len(value) == size
