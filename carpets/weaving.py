"""Carpets laid on one another, and what may lie below."""

from carpets.carpets import CELL_LIMIT, Carpet, aligned, text_on
from carpets.checks import check_colour, is_colour, is_letters
from carpets.errors import InvalidColour, InvalidNumber, InvalidTable
from carpets.nets import common_net

SHOWN_LIMIT = 26


def covered(above, below, clear):
    """The letters of one text, but those of another text of the same length where it has the letter clear."""
    return "".join([low if high == clear else high for high, low in zip(above, below)])


def overlay(top, below, *, clear):
    """The carpet that has the colour of top where this is not clear, and that of below elsewhere."""
    return layered(top, below, clear=clear)


def layered(*layers, clear):
    """The carpet that has at each place the first colour of the layers that is not clear, or clear."""
    check_colour(clear)
    if len(layers) == 0:
        raise InvalidNumber(0)
    net, texts = aligned(layers)
    text = texts[0]
    for lower in texts[1:]:
        text = covered(text, lower, clear)
    return Carpet.on(net, text)


def masked(carpet, mask, *, shown, blank):
    """The carpet with its own colours where those of the mask are shown, and the colour blank elsewhere."""
    if not is_letters(shown) or len(shown) > SHOWN_LIMIT:
        raise InvalidColour(shown)
    check_colour(blank)
    net, texts = aligned([carpet, mask])
    colours, holes = texts
    return Carpet.on(net, "".join([colour if hole in shown else blank for colour, hole in zip(colours, holes)]))


def uncovered(result, top, net, *, clear):
    """The carpet with the least text that the net keeps and that gives the result below top, or None."""
    check_colour(clear)
    common = common_net([result.net, top.net, net], CELL_LIMIT)
    seen = text_on(common, result)
    above = text_on(common, top)
    below = {}
    for place, colour, high in zip(common.cell(), seen, above):
        wanted = below.setdefault(net.reduced(place), colour) if high == clear else high
        if wanted != colour:
            return None
    # Places that top covers everywhere may have any colour, so they get the least one.
    return Carpet.on(net, "".join([below.get(place, "a") for place in net.cell()]))


def is_table(value):
    """Whether any value is a dict from colours to colours."""
    return isinstance(value, dict) and all([is_colour(key) and is_colour(value[key]) for key in value])


def recoloured(carpet, table):
    """The carpet in which each colour that is a key of the table is replaced by its value."""
    if not is_table(table):
        raise InvalidTable(table)
    return Carpet.on(carpet.net, "".join([table.get(colour, colour) for colour in carpet.text]))
