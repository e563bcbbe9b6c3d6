"""The connected parts of one colour of a carpet, also those without an end."""

from carpets.carpets import Carpet
from carpets.checks import check_colour, check_place, is_place
from carpets.errors import LimitExceeded
from carpets.nets import Net, cell_places, spanned, two_shifts, with_shift

STEPS = ((1, 0), (-1, 0), (0, 1), (0, -1))

PATH_LIMIT = 200


def neighbours(place):
    """The list of the four neighbours of a place."""
    x, y = place
    return [(x + dx, y + dy) for dx, dy in STEPS]


def between(place, other):
    """The shift that leads from one place to another one."""
    return (other[0] - place[0], other[1] - place[1])


def spread(carpet, start):
    """The dict that tells, for each place of the cell in the parts of a class, such a place of a single part.

    It differs by a shift of the net. The part is that of the start, which is a place of the cell.
    """
    colour = carpet[start]
    found = {start: start}
    waiting = [start]
    while len(waiting) > 0:
        place = waiting.pop()
        for near in neighbours(place):
            home = carpet.net.reduced(near)
            if home not in found and carpet[near] == colour:
                found[home] = near
                waiting.append(near)
    return found


def carrying_numbers(net, found):
    """The numbers, as spanned gives them, of the shifts of the net that carry a part to itself, from its spread."""
    shifts = []
    for place in found.values():
        for near in neighbours(place):
            # Neighbours in the parts of the class are of one colour, so they belong to the same part.
            twin = found.get(net.reduced(near), near)
            if twin != near:
                shifts.append(between(twin, near))
    return spanned(shifts)


class Part:
    """What is told of the parts of one class. Parts never change."""

    def __init__(self, carpet, found):
        """Describe the parts of the class of which spread has found the places on the carpet."""
        a, b, c = carrying_numbers(carpet.net, found)
        y, x = min([(home[1], home[0]) for home in found])
        around = [carpet.net.reduced(near) for home in found for near in neighbours(home)]
        self._colour = carpet[x, y]
        self._start = (x, y)
        self._places = len(found)
        self._basis = tuple([shift for shift in two_shifts((a, b, c)) if shift != (0, 0)])
        self._size = len(found) if len(self._basis) == 0 else None
        self._border = len([home for home in around if home not in found])
        self._net = Net(a, b, c) if len(self._basis) == 2 else None

    @property
    def colour(self):
        """The colour of the parts."""
        return self._colour

    @property
    def start(self):
        """The least place of the cell that belongs to a part of the class."""
        return self._start

    @property
    def places(self):
        """The number of the places of the cell that belong to parts of the class."""
        return self._places

    @property
    def basis(self):
        """The tuple of shifts whose sums of multiples are the shifts of the net that carry a part to itself."""
        return self._basis

    @property
    def size(self):
        """The number of the places of a part, or None if there is no end."""
        return self._size

    @property
    def border(self):
        """The number of pairs of a place of the cell in a part and a neighbour of it with another colour."""
        return self._border

    @property
    def net(self):
        """The net of the basis if it has two shifts, otherwise None."""
        return self._net

    def __eq__(self, other):
        if not isinstance(other, Part):
            return False
        if self._colour != other._colour or self._start != other._start or self._places != other._places:
            return False
        if self._basis != other._basis or self._size != other._size:
            return False
        return self._border == other._border and self._net == other._net


def parts(carpet):
    """The list of the Parts, one for each class, ordered by start."""
    seen = {}
    told = []
    for place in cell_places(carpet.net):
        if place not in seen:
            found = spread(carpet, place)
            told.append(Part(carpet, found))
            for home in found:
                seen[home] = True
    return told


def part_at(carpet, place):
    """The Part of the class of the part to which a place belongs."""
    return Part(carpet, spread(carpet, carpet.net.reduced(place)))


def are_joined(carpet, first, second):
    """Whether two places are joined."""
    start, end = carpet.net.reduced(first), carpet.net.reduced(second)
    found = spread(carpet, start)
    if end not in found:
        return False
    # The place that is like the second one, in the part of the first one, must differ by a shift of this part.
    x, y = between(start, first)
    twin = (found[end][0] + x, found[end][1] + y)
    numbers = carrying_numbers(carpet.net, found)
    return with_shift(numbers, between(twin, second)) == numbers


def touching(carpet):
    """The sorted list of the tuples of two different colours that occur at two neighbouring places."""
    pairs = []
    for x, y in cell_places(carpet.net):
        for near in ((x + 1, y), (x, y + 1)):
            first, second = sorted([carpet[x, y], carpet[near]])
            if first != second:
                pairs.append((first, second))
    return sorted(set(pairs))


def repainted(carpet, place, colour):
    """The carpet in which all parts of the class of the part of a place have the colour."""
    check_place(place)
    check_colour(colour)
    found = spread(carpet, carpet.net.reduced(place))
    signs = [colour if home in found else carpet[home] for home in cell_places(carpet.net)]
    return Carpet.on(carpet.net, "".join(signs))


def distance(place, other):
    """The least number of steps from one place to another one, whatever their colours are."""
    x, y = between(place, other)
    return abs(x) + abs(y)


def steps_before(carpet, first, second):
    """The dict that tells, for places on shortest ways from the first one, the place before.

    It contains the second place if a path of PATH_LIMIT places at most leads to it.
    """
    before = {first: first}
    reached = [first]
    left = PATH_LIMIT - 1
    while len(reached) > 0 and second not in before:
        left -= 1
        following = []
        for place in reached:
            for near in neighbours(place):
                # Places from which the steps that are left do not lead to the second one are no use.
                if near not in before and distance(near, second) <= left and carpet[near] == carpet[first]:
                    before[near] = place
                    following.append(near)
        reached = following
    return before


def path(carpet, first, second):
    """A list of the fewest places of one colour that lead from the first to the second one, or None."""
    if not are_joined(carpet, first, second):
        return None
    before = steps_before(carpet, first, second)
    if second not in before:
        raise LimitExceeded(PATH_LIMIT)
    places = [second]
    while places[-1] != first:
        places.append(before[places[-1]])
    return places[::-1]


def is_path(carpet, first, second, value):
    """Whether any value is a list of places of one colour that leads step by step from the first to the second one."""
    check_place(first)
    check_place(second)
    if not isinstance(value, list) or len(value) == 0 or not all([is_place(place) for place in value]):
        return False
    if value[0] != first or value[-1] != second:
        return False
    if not all([distance(place, near) == 1 for place, near in zip(value, value[1:])]):
        return False
    return all([carpet[place] == carpet[first] for place in value])
