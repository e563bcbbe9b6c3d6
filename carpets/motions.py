"""Motions of the plane grid: turns, mirror images and shifts."""

from carpets.checks import check_place, is_integer
from carpets.errors import InvalidMotion, InvalidNumber

# (p, q, r, s) stands for the kind that carries (x, y) to (p * x + q * y, r * x + s * y).
IMAGES = {
    "none": (1, 0, 0, 1),
    "left": (0, -1, 1, 0),
    "half": (-1, 0, 0, -1),
    "right": (0, 1, -1, 0),
    "flip": (1, 0, 0, -1),
    "mirror": (-1, 0, 0, 1),
    "swap": (0, 1, 1, 0),
    "cross": (0, -1, -1, 0),
}

MIRROR_IMAGES = ("flip", "mirror", "swap", "cross")

# The eight kinds carry this place to eight different places, so its image tells the kind.
PROBE = (1, 2)


def turned(kind, place):
    """The image of a place under a kind of motion, without a shift."""
    p, q, r, s = IMAGES[kind]
    x, y = place
    return (p * x + q * y, r * x + s * y)


def kind_between(place, image):
    """The kind that carries a place to its image, both among the images of PROBE."""
    return [kind for kind in IMAGES if turned(kind, place) == image][0]


class Motion:
    """A kind of motion, followed by a shift. Motions never change."""

    KINDS = ("none", "left", "half", "right", "flip", "mirror", "swap", "cross")

    def __init__(self, kind, shift=(0, 0)):
        # Values that are no texts may refuse to be compared with the kinds.
        if not isinstance(kind, str) or kind not in Motion.KINDS:
            raise InvalidMotion(kind)
        check_place(shift)
        x, y = shift
        self._kind = kind
        self._shift = (int(x), int(y))

    @staticmethod
    def by(shift):
        """The motion that only adds a shift."""
        return Motion("none", shift)

    @property
    def kind(self):
        """The name of the kind."""
        return self._kind

    @property
    def shift(self):
        """The shift that is added after the kind is applied."""
        return self._shift

    @property
    def is_mirrored(self):
        """Whether the kind is a mirror image."""
        return self._kind in MIRROR_IMAGES

    def __call__(self, place):
        check_place(place)
        x, y = turned(self._kind, place)
        dx, dy = self._shift
        return (x + dx, y + dy)

    def __mul__(self, other):
        kind = kind_between(PROBE, turned(other.kind, turned(self._kind, PROBE)))
        x, y = turned(other.kind, self._shift)
        dx, dy = other.shift
        return Motion(kind, (x + dx, y + dy))

    def __invert__(self):
        kind = kind_between(turned(self._kind, PROBE), PROBE)
        x, y = turned(kind, self._shift)
        return Motion(kind, (-x, -y))

    def repeated(self, number):
        """The motion repeated so often; negative numbers repeat the motion that leads back."""
        if not is_integer(number):
            raise InvalidNumber(number)
        # Four times any kind is the kind none, so that only a shift is left to be multiplied.
        fourth = self * self * self * self
        dx, dy = fourth.shift
        fours = number // 4
        result = Motion.by((fours * dx, fours * dy))
        for _ in range(number % 4):
            result = result * self
        return result

    def __eq__(self, other):
        return isinstance(other, Motion) and self._kind == other._kind and self._shift == other._shift

    def __repr__(self):
        return f"Motion({self._kind!r}, {self._shift!r})"
