"""The words of the document written out a second time, slowly, and sample values for the tests."""

import fractions
import itertools

from carpets.carpets import Carpet
from carpets.motions import Motion
from carpets.nets import Net

BIG = 123456789012345678901234567890
BIGGER = 987654321098765432109876543211

WINDOW = [(x, y) for y in range(-6, 7) for x in range(-6, 7)]
FAR = [
    (BIG, BIGGER), (-BIG, BIGGER), (BIG, -BIGGER), (-BIGGER, -BIG), (10 ** 30 - 1, 2), (3, -10 ** 30), (-10 ** 29, 0),
]


def block_colour(rows, shift, place):
    """The colour of a block at a place, by the formula of the document."""
    x, y = place
    height = len(rows)
    return rows[y % height][(x - shift * (y // height)) % len(rows[0])]


def cell_colour(net, text, place):
    """The colour at a place of what is kept by a net and has a text on its cell."""
    a, b, c = net.numbers
    x, y = place
    times = y // c
    return text[(y - times * c) * a + (x - times * b) % a]


def all_nets(size):
    """All nets of a size."""
    return [Net(size // c, b, c) for c in range(1, size + 1) if size % c == 0 for b in range(size // c)]


def all_texts(length, letters="ab"):
    """All texts of so many of the letters."""
    return ["".join(signs) for signs in itertools.product(letters, repeat=length)]


def kept_shifts(net, colour):
    """The places of the cell of a net that are shifts that keep a function of places, tried one by one."""
    a, _, c = net.numbers
    cell = [(x, y) for y in range(c) for x in range(a)]
    return {
        (dx, dy) for dx, dy in cell
        if all(colour((x, y)) == colour((x + dx, y + dy)) for x, y in cell)
    }


def basis(net):
    """The two shifts that give a net."""
    a, b, c = net.numbers
    return [(a, 0), (b, c)]


def marks(net, mark="b", rest="a"):
    """The carpet with one colour at the shifts of a net and another one elsewhere: no other shift keeps it."""
    return Carpet.on(net, mark + rest * (net.size - 1))


def colours_at(carpet, places):
    """The colours of a carpet at some places."""
    return [carpet[place] for place in places]


# Carpets of different nets and colours; all their nets have a common part of a few hundred places at most.
SAMPLES = [
    Carpet(["a"]), Carpet(["c"]), Carpet(["ab"]), Carpet(["a", "b"]), Carpet(["ab"], shift=1), Carpet(["aab"]),
    Carpet(["aba"], shift=1), Carpet(["abc"], shift=-1), Carpet(["ab", "cd"]), Carpet(["aab", "abb"]),
    Carpet(["abcd"], shift=2), Carpet(["bbac", "abca"], shift=1), Carpet(["ab", "ba", "ca"], shift=1),
]

MOTIONS = [Motion(kind, shift) for kind in Motion.KINDS for shift in ((0, 0), (2, -1))] + [Motion.by((BIG, -BIGGER))]

# One colour for each of four, and back again: no two of them become one.
EXCHANGE = {"a": "d", "b": "z", "c": "a", "d": "b", "e": "c"}


def exchanged(text):
    """A text with each of its colours exchanged."""
    return "".join(EXCHANGE.get(letter, letter) for letter in text)


def square(radius):
    """The places of a square around (0, 0), in place order."""
    return [(x, y) for y in range(-radius, radius + 1) for x in range(-radius, radius + 1)]


def around(place):
    """The four neighbours of a place."""
    x, y = place
    return [(x + 1, y), (x - 1, y), (x, y + 1), (x, y - 1)]


def flooded(carpet, radius):
    """For each place of a square, a place that is the same one exactly for places joined within the square."""
    roots = {}
    for start in square(radius):
        if start not in roots:
            roots[start] = start
            waiting = [start]
            while waiting:
                place = waiting.pop()
                for near in around(place):
                    inside = max(abs(near[0]), abs(near[1])) <= radius
                    if inside and near not in roots and carpet[near] == carpet[start]:
                        roots[near] = start
                        waiting.append(near)
    return roots


def fits(carpet, rows, place):
    """Whether rows of letters and dots fit at a place, sign by sign."""
    x, y = place
    return all(
        sign in (".", carpet[x + i, y + j]) for j, row in enumerate(rows) for i, sign in enumerate(row)
    )


def share_of(number, size):
    """A share in lowest terms, by the standard library."""
    share = fractions.Fraction(number, size)
    return (share.numerator, share.denominator)
