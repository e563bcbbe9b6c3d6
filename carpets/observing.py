"""The nets and carpets that fit observations, and the place that tells most."""

from carpets.carpets import CELL_LIMIT, Carpet, text_on
from carpets.checks import LETTERS, check_number, check_place, is_colour, is_place
from carpets.errors import InvalidObservation, LimitExceeded
from carpets.nets import cell_places, common_net, home, nets_of_size

LEAST_LIMIT = 60
TELLING_LIMIT = 10000


def is_observation(value):
    """Whether any value is a tuple of a place and a colour."""
    return isinstance(value, tuple) and len(value) == 2 and is_place(value[0]) and is_colour(value[1])


def check_observations(observations):
    """Raise InvalidObservation with the index of the first value that is no observation."""
    for index, observation in enumerate(observations):
        if not is_observation(observation):
            raise InvalidObservation(index)


def told_colours(net, observations):
    """The dict from places of the cell of a net to the colours that observations tell of them, or None.

    It is None if no carpet that the net keeps explains all observations.
    """
    numbers = net.numbers
    told = {}
    for place, colour in observations:
        if told.setdefault(home(numbers, place), colour) != colour:
            return None
    return told


def explains(carpet, observations):
    """Whether a carpet has the colours of all observations at their places."""
    return all([carpet[place] == colour for place, colour in observations])


def explaining(candidates, observations):
    """The list of the indexes of the carpets of a list that explain all observations."""
    check_observations(observations)
    return [index for index, carpet in enumerate(candidates) if explains(carpet, observations)]


def fitting_nets(observations, size):
    """The list of all nets of a size that keep some carpet that explains all observations."""
    check_observations(observations)
    return [net for net in nets_of_size(size) if told_colours(net, observations) is not None]


def sure_colour(net, observations, place):
    """The colour of a place in all carpets that the net keeps and that explain all observations, or None."""
    check_observations(observations)
    check_place(place)
    told = told_colours(net, observations)
    return None if told is None else told.get(net.reduced(place))


def open_places(net, observations):
    """The list of the places of the cell of which the observations do not make a colour sure, in place order."""
    check_observations(observations)
    if net.size > CELL_LIMIT:
        raise LimitExceeded(CELL_LIMIT)
    told = told_colours(net, observations)
    return [place for place in cell_places(net) if told is None or place not in told]


def are_opposed(observations):
    """Whether two observations tell different colours of one place."""
    told = {}
    for place, colour in observations:
        if told.setdefault(place, colour) != colour:
            return True
    return False


def least_fitting(observations):
    """The least size of a net that keeps some carpet that explains all observations, or None if there is none."""
    check_observations(observations)
    if are_opposed(observations):
        return None
    for size in range(1, LEAST_LIMIT + 1):
        for net in nets_of_size(size):
            if told_colours(net, observations) is not None:
                return size
    raise LimitExceeded(LEAST_LIMIT)


def next_letters(letters, places, colours):
    """The list of letters that comes next if those at some indexes may be any of the colours, or None.

    The last ones change first, so that the lists follow each other in ascending order.
    """
    changed = list(letters)
    for index in places[::-1]:
        number = colours.index(changed[index]) + 1
        if number < len(colours):
            changed[index] = colours[number]
            return changed
        changed[index] = colours[0]
    return None


def colourings(net, colours, observations):
    """Yield all carpets of so many colours that the net keeps and that explain all observations, ordered by text."""
    check_observations(observations)
    check_number(colours, len(LETTERS))
    if net.size > CELL_LIMIT:
        raise LimitExceeded(CELL_LIMIT)
    told = told_colours(net, observations)
    allowed = LETTERS[:colours]
    if told is None or not all([colour in allowed for colour in told.values()]):
        return
    homes = cell_places(net)
    free = [index for index, place in enumerate(homes) if place not in told]
    letters = [told.get(place, allowed[0]) for place in homes]
    while letters is not None:
        yield Carpet.on(net, "".join(letters))
        letters = next_letters(letters, free, allowed)


def most_alike(column):
    """The greatest number of equal letters in a text."""
    return max([column.count(letter) for letter in sorted(set(column))])


def telling_place(candidates):
    """The tuple of the first place at which the fewest carpets of a list agree, and of this number; None if empty."""
    if len(candidates) == 0:
        return None
    net = common_net([carpet.net for carpet in candidates], TELLING_LIMIT)
    texts = [text_on(net, carpet) for carpet in candidates]
    numbers = [most_alike("".join(column)) for column in zip(*texts)]
    least = min(numbers)
    return (cell_places(net)[numbers.index(least)], least)
