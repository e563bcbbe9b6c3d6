"""Carpets: colourings of the plane grid that repeat in two directions."""

from carpets.checks import LETTERS, check_colour, check_rows, is_integer, is_letters
from carpets.errors import InvalidNumber, InvalidText, LimitExceeded
from carpets.fitting import fitting
from carpets.motions import turned
from carpets.nets import Net, cell_places, common_net, prime_divisors, two_shifts

ROW_LIMIT = 100
LETTER_LIMIT = 1000
CELL_LIMIT = 2000


def rotated(text, width, by):
    """The text in which each row of so many letters is moved to the right, around its end."""
    cut = -by % width
    return "".join([text[k + cut:k + width] + text[k:k + cut] for k in range(0, len(text), width)])


def moved(net, text, shift):
    """The text on the cell of a net, after what the text says of this cell is moved by a shift."""
    a, b, c = net.numbers
    dx, dy = net.reduced(shift)
    # The rows that leave the cell at the top come back at its bottom by the shift (-b, -c).
    cut = (c - dy) * a
    return rotated(text[cut:], a, dx - b) + rotated(text[:cut], a, dx)


def shifts_of_order(net, prime):
    """Shifts that belong to a net only if they are multiplied by a prime.

    Every other such shift differs by a shift of the net from a multiple of one of these.
    """
    a, b, c = net.numbers
    sums = [(a, 0)] + [(k * a + b, c) for k in range(prime)]
    return [(x // prime, y // prime) for x, y in sums if x % prime == 0 and y % prime == 0]


def kept_shift(net, text):
    """A shift outside of a net that keeps the text on its cell, or None if there is none.

    If any shift does, then one does that has a prime order, so that no other ones need to be tried.
    """
    for prime in prime_divisors(net.size):
        for shift in shifts_of_order(net, prime):
            if moved(net, text, shift) == text:
                return shift
    return None


def least_cell(net, text):
    """The net of all shifts that keep the text on the cell of a net, and the text on the cell of that net."""
    shift = kept_shift(net, text)
    while shift is not None:
        width = net.numbers[0]
        first, second = two_shifts(net.numbers)
        net = Net.of(first, second, shift)
        # The cell of a net stands in the cells of all nets within it, at their lowest left place.
        a, _, c = net.numbers
        text = "".join([text[y * width:y * width + a] for y in range(c)])
        shift = kept_shift(net, text)
    return (net, text)


class Carpet:
    """A colour for every place, kept by the shifts of a net. Carpets never change."""

    def __init__(self, rows, *, shift=0):
        check_rows(rows, LETTERS, ROW_LIMIT)
        width = len(rows[0])
        if width * len(rows) > LETTER_LIMIT:
            raise LimitExceeded(LETTER_LIMIT)
        if not is_integer(shift):
            raise InvalidNumber(shift)
        net, text = least_cell(Net(width, shift % width, len(rows)), "".join(rows))
        self._net = net
        self._text = text

    @staticmethod
    def on(net, text):
        """The carpet with the letters of a text on the cell of a net, kept by the net."""
        if net.size > CELL_LIMIT:
            raise LimitExceeded(CELL_LIMIT)
        if not is_letters(text) or len(text) != net.size:
            raise InvalidText(text)
        kept_by, least = least_cell(net, text)
        # The limits of blocks are not those of cells, so the carpet is not made from rows.
        carpet = Carpet(["a"])
        carpet._net = kept_by
        carpet._text = least
        return carpet

    @classmethod
    def plain(cls, colour):
        """The carpet of one colour."""
        check_colour(colour)
        return cls([colour])

    @property
    def net(self):
        """The net of all shifts that keep the carpet."""
        return self._net

    @property
    def text(self):
        """The colours of the cell in place order."""
        return self._text

    @property
    def rows(self):
        """The list of the rows of the cell, the lowest one first."""
        width = self._net.numbers[0]
        return [self._text[k:k + width] for k in range(0, len(self._text), width)]

    @property
    def colours(self):
        """The text of the colours in ascending order."""
        return "".join(sorted(set(self._text)))

    def is_kept_by(self, motion):
        """Whether the carpet is equal to its image."""
        return self == self * motion

    def __getitem__(self, at):
        x, y = self._net.reduced(at)
        return self._text[y * self._net.numbers[0] + x]

    def __iter__(self):
        raise TypeError("a carpet has no first place")

    def __contains__(self, x):
        return len(fitting(self._net, self._text, x.rows, cell_places(self._net))) > 0

    def __add__(self, other):
        return Carpet.on(self._net, moved(self._net, self._text, other))

    def __sub__(self, other):
        dx, dy = other
        return self + (-dx, -dy)

    def __mul__(self, other):
        net = self._net * other
        back = ~other
        text = "".join([self[turned(back.kind, place)] for place in cell_places(net)])
        return Carpet.on(net, moved(net, text, other.shift))

    def __eq__(self, other):
        return isinstance(other, Carpet) and self._net == other._net and self._text == other._text

    def __len__(self):
        return len(self._text)

    def __repr__(self):
        return f"Carpet({self.rows!r}, shift={self._net.numbers[1]})"


def text_on(net, carpet):
    """The text of a carpet on the cell of a net whose shifts all keep the carpet."""
    a, b, c = carpet.net.numbers
    width, _, height = net.numbers
    blocks = [rotated(carpet.text, a, k * b) for k in range(height // c)]
    return "".join([block[k:k + a] * (width // a) for block in blocks for k in range(0, len(block), a)])


def aligned(some):
    """The net of the shifts that belong to the nets of some carpets, and the list of their texts on its cell."""
    net = common_net([carpet.net for carpet in some], CELL_LIMIT)
    return (net, [text_on(net, carpet) for carpet in some])
