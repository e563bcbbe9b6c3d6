"""Texts of places, nets, motions and carpets, pictures, and tables of shares."""

from carpets.carpets import Carpet
from carpets.checks import check_number, check_place, is_written
from carpets.errors import InvalidRows, InvalidText, LimitExceeded
from carpets.motions import Motion
from carpets.nets import Net, are_numbers

DIGITS = "0123456789"
DIGIT_LIMIT = 60
PICTURE_LIMIT = 100


def show_place(place):
    """The text of a place."""
    check_place(place)
    x, y = place
    return f"{x},{y}"


def show_net(net):
    """The text of a net."""
    a, b, c = net.numbers
    return f"[{a} {b} {c}]"


def show_motion(motion):
    """The text of a motion."""
    return f"{motion.kind} {show_place(motion.shift)}"


def show_carpet(carpet):
    """The text of a carpet."""
    shift = carpet.net.numbers[1]
    return "/".join(carpet.rows) + f"+{shift}"


def is_integer_text(text):
    """Whether a text is that of an integer of at most 60 digits."""
    digits = text[1:] if text.startswith("-") else text
    if not is_written(digits, DIGITS) or not 1 <= len(digits) <= DIGIT_LIMIT:
        return False
    return text == "0" or not digits.startswith("0")


def integers_between(text, sign, number):
    """The list of so many integers whose texts are joined by a sign in a text, or None."""
    words = text.split(sign)
    if len(words) != number or not all([is_integer_text(word) for word in words]):
        return None
    return [int(word) for word in words]


def read_place(text):
    """The place that a text says."""
    if not isinstance(text, str):
        raise InvalidText(text)
    numbers = integers_between(text, ",", 2)
    if numbers is None:
        raise InvalidText(text)
    return (numbers[0], numbers[1])


def read_net(text):
    """The net that a text says."""
    if not isinstance(text, str) or not text.startswith("[") or not text.endswith("]"):
        raise InvalidText(text)
    numbers = integers_between(text[1:-1], " ", 3)
    if numbers is None:
        raise InvalidText(text)
    a, b, c = numbers
    if not are_numbers(a, b, c):
        raise InvalidText(text)
    return Net(a, b, c)


def read_motion(text):
    """The motion that a text says."""
    if not isinstance(text, str):
        raise InvalidText(text)
    kind, _, shift = text.partition(" ")
    numbers = integers_between(shift, ",", 2)
    if kind not in Motion.KINDS or numbers is None:
        raise InvalidText(text)
    return Motion(kind, (numbers[0], numbers[1]))


def read_carpet(text):
    """The carpet that a text says."""
    if not isinstance(text, str):
        raise InvalidText(text)
    block, _, number = text.partition("+")
    rows = block.split("/")
    if not is_integer_text(number) or not 0 <= int(number) < len(rows[0]):
        raise InvalidText(text)
    try:
        return Carpet(rows, shift=int(number))
    except (InvalidRows, LimitExceeded):
        raise InvalidText(text) from None


def picture(carpet, place, width, height):
    """The list of the rows of a part of the plane that has a place as its lowest left one, the highest row first."""
    check_place(place)
    check_number(width, PICTURE_LIMIT)
    check_number(height, PICTURE_LIMIT)
    left, bottom = place
    columns = [left + k for k in range(width)]
    return ["".join([carpet[x, bottom + height - 1 - k] for x in columns]) for k in range(height)]


def share_table(carpet):
    """The list of texts that tell how often each colour occurs in the cell, and its share of the cell in percent."""
    table = []
    for colour in carpet.colours:
        number = carpet.text.count(colour)
        percent = 100 * number // len(carpet)
        table.append(f"{colour} {number:>6} {percent:>3}")
    return table
