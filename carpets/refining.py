"""Common refinements and common coarsenings of carpets."""

from carpets.carpets import Carpet, aligned
from carpets.checks import LETTERS
from carpets.errors import InvalidNumber, LimitExceeded


def refinement(one, other):
    """The dict from the colours of one to those of the other at the same places, or None."""
    _, texts = aligned([one, other])
    first, second = texts
    table = {}
    for colour, image in zip(first, second):
        if table.setdefault(colour, image) != image:
            return None
    return {colour: table[colour] for colour in sorted(table)}


def is_finer(one, other):
    """Whether equal colours of one always mean equal colours of the other."""
    return refinement(one, other) is not None


def aligned_all(some):
    """What aligned gives for some carpets; raises InvalidNumber(0) if there are none."""
    if len(some) == 0:
        raise InvalidNumber(0)
    return aligned(some)


def paired(*carpets):
    """The carpet that has equal colours at two places exactly if all the carpets have."""
    net, texts = aligned_all(carpets)
    words = ["".join(word) for word in zip(*texts)]
    names = sorted(set(words))
    if len(names) > len(LETTERS):
        raise LimitExceeded(len(LETTERS))
    table = {word: LETTERS[k] for k, word in enumerate(names)}
    return Carpet.on(net, "".join([table[word] for word in words]))


def joined(least, one, other):
    """The dict in which the set of one colour and that of another one are a single set.

    For each colour, the dict tells the least colour of its set.
    """
    low = min(least[one], least[other])
    high = max(least[one], least[other])
    return {colour: low if least[colour] == high else least[colour] for colour in least}


def linked_colours(texts):
    """The dict that tells, for each letter of the first text, the least one that is linked to it."""
    least = {colour: colour for colour in sorted(set(texts[0]))}
    for text in texts:
        partner = {}
        for colour, other in sorted(set(list(zip(texts[0], text)))):
            least = joined(least, colour, partner.setdefault(other, colour))
    return least


def merged(*carpets):
    """The carpet that has equal colours at two places exactly if the carpets link them."""
    net, texts = aligned_all(carpets)
    least = linked_colours(texts)
    names = sorted(set(list(least.values())))
    table = {colour: LETTERS[names.index(least[colour])] for colour in least}
    return Carpet.on(net, "".join([table[colour] for colour in texts[0]]))
