"""Questions about integers, and the errors if the answer is no."""

from holdlevels.errors import InvalidNumber


def is_whole(value):
    """Return whether the value is an integer other than True and False."""
    return isinstance(value, int) and not isinstance(value, bool)


def is_between(value, least, most):
    """Return whether the value is an integer from the least to the most."""
    return is_whole(value) and least <= value <= most


def check_whole(value):
    """Raise InvalidNumber if the value is not an integer."""
    if not is_whole(value):
        raise InvalidNumber(value)


def check_not_negative(value):
    """Raise InvalidNumber if the value is not an integer of at least 0."""
    if not is_whole(value) or value < 0:
        raise InvalidNumber(value)


def check_between(value, least, most):
    """Raise InvalidNumber if the value is not an integer from the least to the most."""
    if not is_between(value, least, most):
        raise InvalidNumber(value)
