"""What counts as an integer, a place, a colour and a row, for all modules of the package."""

from carpets.errors import InvalidColour, InvalidNumber, InvalidPlace, InvalidRows

LETTERS = "abcdefghijklmnopqrstuvwxyz"


def is_integer(value):
    """Whether any value is an int other than True and False."""
    return isinstance(value, int) and not isinstance(value, bool)


def check_positive(value):
    """Raise InvalidNumber(value) unless any value is an integer from 1."""
    if not is_integer(value) or value < 1:
        raise InvalidNumber(value)


def check_number(value, most):
    """Raise InvalidNumber(value) unless any value is an integer from 1 to the greatest one that is allowed."""
    check_positive(value)
    if value > most:
        raise InvalidNumber(value)


def is_place(value):
    """Whether any value is a tuple of two integers."""
    if not isinstance(value, tuple) or len(value) != 2:
        return False
    return is_integer(value[0]) and is_integer(value[1])


def check_place(value):
    """Raise InvalidPlace(value) unless any value is a place."""
    if not is_place(value):
        raise InvalidPlace(value)


def is_written(value, signs):
    """Whether any value is a text of some signs and nothing else; it may be empty."""
    return isinstance(value, str) and all([sign in signs for sign in value])


def is_letters(value):
    """Whether any value is a text of letters and nothing else; it may be empty."""
    return is_written(value, LETTERS)


def is_colour(value):
    """Whether any value is one letter."""
    return is_letters(value) and len(value) == 1


def check_colour(value):
    """Raise InvalidColour(value) unless any value is a colour."""
    if not is_colour(value):
        raise InvalidColour(value)


def check_rows(rows, signs, most):
    """Raise InvalidRows unless any value is a list or tuple of rows of one length, all made of some signs.

    Both the number of the rows and their length are from 1 to the greatest one that is allowed.
    """
    if not isinstance(rows, (list, tuple)) or not 1 <= len(rows) <= most:
        raise InvalidRows(None)
    for index, row in enumerate(rows):
        if not is_written(row, signs) or not 1 <= len(row) <= most or len(row) != len(rows[0]):
            raise InvalidRows(index)
