"""Where carpets differ, and the shifts that carry one to another."""

from carpets.carpets import rotated
from carpets.checks import is_place
from carpets.nets import two_shifts


def telling_places(one, other):
    """Places among which two carpets differ if they differ anywhere.

    If a shift of the net of one carpet does not keep the other one, then this one has different colours at
    some place of its cell and at the place a shift away, where the first one has equal colours.
    """
    shifts = [(0, 0)] + two_shifts(one.net.numbers) + two_shifts(other.net.numbers)
    return [(x + dx, y + dy) for net in (one.net, other.net) for x, y in net.cell() for dx, dy in shifts]


def difference(one, other):
    """None if the carpets are equal, otherwise a place at which their colours differ."""
    if one == other:
        return None
    for place in telling_places(one, other):
        if one[place] != other[place]:
            return place
    return None


def is_difference(one, other, value):
    """Whether any value is a place at which the colours differ."""
    return is_place(value) and one[value] != other[value]


def shift_between(one, other):
    """The first shift in the cell of the other's net for which one + shift is equal to other, or None."""
    if one.net != other.net:
        return None
    a, b, c = other.net.numbers
    texts = [rotated(one.text, a, by) for by in range(a)]
    for dx, dy in other.net.cell():
        # This is what moved does, with rows that are rotated once for all shifts.
        cut = (c - dy) * a
        if texts[(dx - b) % a][cut:] + texts[dx][:cut] == other.text:
            return (dx, dy)
    return None
