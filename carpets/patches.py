"""Patches, windows, and where they fit on a carpet."""

from carpets.checks import LETTERS, check_number, check_rows
from carpets.errors import LimitExceeded
from carpets.fitting import ANY_COLOUR, fitting, long_rows
from carpets.nets import cell_places
from carpets.scaling import share

SIDE_LIMIT = 50
TELLING_LIMIT = 400


class Patch:
    """Rows of letters and dots, which stand for any colour. Patches never change."""

    def __init__(self, rows):
        check_rows(rows, LETTERS + ANY_COLOUR, SIDE_LIMIT)
        self._rows = list(rows)

    @property
    def rows(self):
        """The list of the rows, the lowest one first."""
        return list(self._rows)

    @property
    def width(self):
        """The length of the rows."""
        return len(self._rows[0])

    @property
    def height(self):
        """The number of the rows."""
        return len(self._rows)

    def __eq__(self, other):
        return isinstance(other, Patch) and self._rows == other._rows

    def __repr__(self):
        return f"Patch({self._rows!r})"


def occurrences(carpet, patch):
    """The list of the places of the cell at which a patch fits, in place order."""
    return fitting(carpet.net, carpet.text, patch.rows, cell_places(carpet.net))


def next_occurrence(carpet, patch, place):
    """The first place at which a patch fits, from a place to the right, or None."""
    x, y = carpet.net.reduced(place)
    a = carpet.net.numbers[0]
    found = fitting(carpet.net, carpet.text, patch.rows, [((x + k) % a, y) for k in range(a)])
    if len(found) == 0:
        return None
    nearest, _ = found[0]
    return (place[0] + (nearest - x) % a, place[1])


def frequency(carpet, patch):
    """The share of the places at which a patch fits, as a tuple in lowest terms."""
    return share(len(occurrences(carpet, patch)), len(carpet))


def windows_at(carpet, width, height):
    """The list of the windows of a size, each a tuple of texts, at the places of the cell in place order."""
    a, b, c = carpet.net.numbers
    lines = long_rows(carpet.net, carpet.text, width)
    found = []
    for x, y in cell_places(carpet.net):
        starts = [(k % c, (x - k // c * b) % a) for k in range(y, y + height)]
        found.append(tuple([lines[row][start:start + width] for row, start in starts]))
    return found


def windows(carpet, width, height):
    """The list of the tuples (rows, number) for the windows of a size, and for how often they fit in the cell."""
    check_number(width, SIDE_LIMIT)
    check_number(height, SIDE_LIMIT)
    numbers = {}
    for rows in windows_at(carpet, width, height):
        numbers[rows] = numbers.get(rows, 0) + 1
    return [(rows, numbers[rows]) for rows in sorted(list(numbers))]


def told_by_greater_windows(net, marks):
    """The marks, one for each place of the cell, of the windows that are greater by one row and one letter.

    A window has the mark of another one of its size exactly if they are equal. It consists of four
    windows of the size before, so that their marks tell its own one.
    """
    names = {}
    found = {}
    for x, y in cell_places(net):
        corners = [net.reduced((x + i, y + j)) for i, j in ((0, 0), (1, 0), (0, 1), (1, 1))]
        four = tuple([marks[corner] for corner in corners])
        found[(x, y)] = names.setdefault(four, len(names))
    return found


def telling_size(carpet):
    """The least n for which the windows of n times n at different places of the cell are all different."""
    net = carpet.net
    if net.size > TELLING_LIMIT:
        raise LimitExceeded(TELLING_LIMIT)
    size = 1
    marks = {place: LETTERS.index(carpet[place]) for place in cell_places(net)}
    while len(set(list(marks.values()))) < net.size:
        marks = told_by_greater_windows(net, marks)
        size += 1
    return size
