"""Enlarged and sampled carpets, and the shares of the colours."""

from math import gcd

from carpets.carpets import CELL_LIMIT, Carpet
from carpets.checks import check_place, check_positive
from carpets.errors import LimitExceeded
from carpets.nets import Net, cell_places


def check_factors(width, height):
    """Raise InvalidNumber for the first of two values that is not an integer from 1."""
    check_positive(width)
    check_positive(height)


def enlarged(carpet, width, height):
    """The carpet in which each place becomes a block of so many places."""
    check_factors(width, height)
    a, b, c = carpet.net.numbers
    net = Net(a * width, b * width, c * height)
    if net.size > CELL_LIMIT:
        raise LimitExceeded(CELL_LIMIT)
    rows = ["".join([colour * width for colour in row]) for row in carpet.rows]
    return Carpet.on(net, "".join([row * height for row in rows]))


def sampled(carpet, width, height, *, start=(0, 0)):
    """The carpet that has at (x, y) the colour of the place start + (width * x, height * y)."""
    check_factors(width, height)
    check_place(start)
    # A shift keeps the samples if it is enlarged to a shift of the carpet's net.
    a, b, c = (carpet.net & Net(width, 0, height)).numbers
    net = Net(a // width, b // width, c // height)
    first, second = start
    return Carpet.on(net, "".join([carpet[first + width * x, second + height * y] for x, y in cell_places(net)]))


def share(number, size):
    """The share of a number of places among so many, as a tuple in lowest terms."""
    common = gcd(number, size)
    return (number // common, size // common)


def shares(carpet):
    """The dict from the colours, in ascending order, to their shares of all places."""
    return {colour: share(carpet.text.count(colour), len(carpet)) for colour in carpet.colours}
