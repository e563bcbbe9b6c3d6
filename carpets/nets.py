"""Nets: the sums of multiples of two shifts that do not lie on one line through (0, 0)."""

from math import gcd

from carpets.checks import check_number, check_place, check_positive, is_integer, is_place
from carpets.errors import InvalidNet, LimitExceeded
from carpets.motions import turned

SIZE_LIMIT = 10000
ABOVE_LIMIT = 2000


def are_numbers(a, b, c):
    """Whether any three values are the numbers of a net."""
    if not (is_integer(a) and is_integer(b) and is_integer(c)):
        return False
    return a >= 1 and c >= 1 and 0 <= b < a


def two_shifts(numbers):
    """The two shifts whose sums of multiples are the net with these numbers."""
    a, b, c = numbers
    return [(a, 0), (b, c)]


def with_shift(numbers, shift):
    """The numbers of the sums of multiples of two_shifts(numbers) and a shift.

    While all shifts so far lie on one line through (0, 0), a or c is 0.
    """
    a, b, c = numbers
    x, y = shift
    while y != 0:
        times = c // y
        b, c, x, y = x, y, b - times * x, c - times * y
    if c < 0:
        b, c = -b, -c
    a = gcd(a, x)
    if a > 0:
        b = b % a
    return (a, b, c)


def spanned(shifts):
    """The numbers of the sums of multiples of shifts; a or c is 0 if they lie on one line."""
    numbers = (0, 0, 0)
    for shift in shifts:
        numbers = with_shift(numbers, shift)
    return numbers


def home(numbers, place):
    """The place of the cell that differs from a place by a shift of the net with these numbers."""
    a, b, c = numbers
    x, y = place
    return ((x - y // c * b) % a, y % c)


class Net:
    """The net of the sums of multiples of (a, 0) and (b, c). Nets never change."""

    def __init__(self, a, b, c):
        if not are_numbers(a, b, c):
            raise InvalidNet((a, b, c))
        self._numbers = (int(a), int(b), int(c))

    @staticmethod
    def of(*shifts):
        """The net of all sums of multiples of the shifts."""
        for shift in shifts:
            check_place(shift)
        a, b, c = spanned(shifts)
        # Fewer than two shifts always lie on one line through (0, 0).
        if a == 0 or c == 0:
            raise InvalidNet(shifts)
        return Net(a, b, c)

    @classmethod
    def whole(cls):
        """The net of all shifts."""
        return cls(1, 0, 1)

    @property
    def numbers(self):
        """The tuple (a, b, c)."""
        return self._numbers

    @property
    def size(self):
        """The number of the places of the cell."""
        a, _, c = self._numbers
        return a * c

    def __contains__(self, x):
        return is_place(x) and self.reduced(x) == (0, 0)

    def __and__(self, other):
        # The dual of a net is the net itself, turned by a quarter and divided by its size.
        # What belongs to both nets is dual to the sum of their duals, so a sum leads to it.
        wide = self.scaled(other.size) | other.scaled(self.size)
        sizes = self.size * other.size
        a, b, c = wide.numbers
        return Net(a * sizes // wide.size, b * sizes // wide.size, c * sizes // wide.size)

    def __or__(self, other):
        a, b, c = spanned(two_shifts(self._numbers) + two_shifts(other.numbers))
        return Net(a, b, c)

    def __mul__(self, other):
        a, b, c = spanned([turned(other.kind, shift) for shift in two_shifts(self._numbers)])
        return Net(a, b, c)

    def reduced(self, place):
        """The place of the cell that differs from a place by a shift of the net."""
        check_place(place)
        return home(self._numbers, place)

    def order(self, shift):
        """The least n >= 1 such that n times the shift belongs to the net."""
        check_place(shift)
        a, b, c = self._numbers
        x, y = shift
        # Rows that hold shifts of the net are c apart, so only multiples of this number end in one.
        times = c // gcd(c, y)
        along = times * x - times * y // c * b
        return times * (a // gcd(a, along))

    def cell(self):
        """Yield the places of the cell in place order."""
        a, _, c = self._numbers
        for y in range(c):
            for x in range(a):
                yield (x, y)

    def is_within(self, other):
        """Whether all shifts of the net belong to the other net."""
        first, second = two_shifts(self._numbers)
        return first in other and second in other

    def scaled(self, factor):
        """The net of all shifts of the net multiplied by an integer from 1."""
        check_positive(factor)
        a, b, c = self._numbers
        return Net(a * factor, b * factor, c * factor)

    def __eq__(self, other):
        return isinstance(other, Net) and self._numbers == other._numbers

    def __repr__(self):
        return f"Net{self._numbers!r}"


def divisors(number):
    """The integers from 1 that divide a number from 1, in ascending order."""
    return [k for k in range(1, number + 1) if number % k == 0]


def prime_divisors(number):
    """The primes that divide a number from 1, in ascending order."""
    found = divisors(number)
    return [k for k in found if len([d for d in found if k % d == 0]) == 2]


def nets_of_size(size):
    """Yield all nets of a size, ordered by c and then by b."""
    check_number(size, SIZE_LIMIT)
    for c in divisors(size):
        a = size // c
        for b in range(a):
            yield Net(a, b, c)


def nets_above(net):
    """The list of all nets in which the net is, ordered by size, c and b."""
    if net.size > ABOVE_LIMIT:
        raise LimitExceeded(ABOVE_LIMIT)
    found = []
    for size in divisors(net.size):
        for above in nets_of_size(size):
            if net.is_within(above):
                found.append(above)
    return found


def cell_places(net):
    """The list of the places of the cell of a net, in place order.

    What an operator or a property runs must not yield, so that it takes this list instead of Net.cell.
    """
    a, _, c = net.numbers
    return [(x, y) for y in range(c) for x in range(a)]


def common_net(nets, limit):
    """The net of the shifts that belong to all nets; raises LimitExceeded(limit) if its size is greater."""
    common = Net.whole()
    for net in nets:
        common = common & net
        # Further nets only take shifts away, so the size never becomes less again.
        if common.size > limit:
            raise LimitExceeded(limit)
    return common
