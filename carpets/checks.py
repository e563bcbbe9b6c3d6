"""What counts as an integer, a place and a colour, for all modules of the package."""

from carpets.errors import InvalidColour, InvalidPlace

LETTERS = "abcdefghijklmnopqrstuvwxyz"


def is_integer(value):
    """Whether any value is an int other than True and False."""
    return isinstance(value, int) and not isinstance(value, bool)


def is_place(value):
    """Whether any value is a tuple of two integers."""
    if not isinstance(value, tuple) or len(value) != 2:
        return False
    return is_integer(value[0]) and is_integer(value[1])


def check_place(value):
    """Raise InvalidPlace(value) unless any value is a place."""
    if not is_place(value):
        raise InvalidPlace(value)


def is_letters(value):
    """Whether any value is a text of letters and nothing else; it may be empty."""
    return isinstance(value, str) and all(["a" <= sign <= "z" for sign in value])


def is_colour(value):
    """Whether any value is one letter."""
    return is_letters(value) and len(value) == 1


def check_colour(value):
    """Raise InvalidColour(value) unless any value is a colour."""
    if not is_colour(value):
        raise InvalidColour(value)
