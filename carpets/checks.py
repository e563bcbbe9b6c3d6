"""What counts as an integer and as a place, for all modules of the package."""

from carpets.errors import InvalidPlace


def is_integer(value):
    """Whether any value is an int other than True and False."""
    return isinstance(value, int) and not isinstance(value, bool)


def is_place(value):
    """Whether any value is a tuple of two integers."""
    if not isinstance(value, tuple) or len(value) != 2:
        return False
    return is_integer(value[0]) and is_integer(value[1])


def check_place(value):
    """Raise InvalidPlace(value) unless any value is a place."""
    if not is_place(value):
        raise InvalidPlace(value)
