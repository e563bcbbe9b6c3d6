"""A console that keeps carpets by names."""

from carpets.checks import is_colour, is_letters
from carpets.errors import InvalidCommand, InvalidText, UnknownName
from carpets.motions import Motion
from carpets.parts import are_joined, parts, repainted, touching
from carpets.refining import is_finer, merged, paired
from carpets.texts import read_carpet, read_place, show_carpet, show_net, show_place
from carpets.weaving import overlay

NAME_LIMIT = 8

# What the words behind the first one are. "new" is a name under which a carpet is to be kept.
# The text of a motion is two words: its kind, and its shift, which is written like a place.
FORMS = {
    "set": ("new", "carpet"),
    "drop": ("name",),
    "names": (),
    "show": ("name",),
    "net": ("name",),
    "at": ("name", "place"),
    "touching": ("name",),
    "move": ("new", "name", "kind", "place"),
    "fill": ("new", "name", "place", "colour"),
    "overlay": ("new", "name", "name", "colour"),
    "pair": ("new", "name", "name"),
    "merge": ("new", "name", "name"),
    "finer": ("name", "name"),
    "joined": ("name", "place", "place"),
    "parts": ("name",),
}


def is_name(word):
    """Whether a word consists of 1 to 8 letters."""
    return is_letters(word) and 1 <= len(word) <= NAME_LIMIT


def read_word(kind, word):
    """The value of a word of a kind; raises InvalidText for other words."""
    if kind == "carpet":
        return read_carpet(word)
    if kind == "place":
        return read_place(word)
    if kind == "colour":
        valid = is_colour(word)
    elif kind == "kind":
        valid = word in Motion.KINDS
    else:
        valid = is_name(word)
    if not valid:
        raise InvalidText(word)
    return word


def read_command(line):
    """The first word of a command and the list of the values of the other ones; raises InvalidCommand."""
    if not isinstance(line, str):
        raise InvalidCommand(line)
    words = line.split(" ")
    form = FORMS.get(words[0])
    if form is None or len(form) != len(words) - 1:
        raise InvalidCommand(line)
    try:
        return (words[0], [read_word(kind, word) for kind, word in zip(form, words[1:])])
    except InvalidText:
        raise InvalidCommand(line) from None


def joined_or_dash(words):
    """The words joined by spaces, or a dash if there are none."""
    return " ".join(words) if len(words) > 0 else "-"


def yes_or_no(value):
    """The word for True or False."""
    return "yes" if value else "no"


def tell_carpet(carpet):
    """The answer to show."""
    return show_carpet(carpet)


def tell_net(carpet):
    """The answer to net."""
    return show_net(carpet.net)


def tell_colour(carpet, place):
    """The answer to at."""
    return carpet[place]


def tell_touching(carpet):
    """The answer to touching."""
    return joined_or_dash([first + second for first, second in touching(carpet)])


def tell_finer(one, other):
    """The answer to finer."""
    return yes_or_no(is_finer(one, other))


def tell_joined(carpet, first, second):
    """The answer to joined."""
    return yes_or_no(are_joined(carpet, first, second))


def tell_part(part):
    """What the answer to parts says of one Part."""
    size = "-" if part.size is None else str(part.size)
    return f"{part.colour} {show_place(part.start)} {size}"


def tell_parts(carpet):
    """The answer to parts."""
    return "; ".join([tell_part(part) for part in parts(carpet)])


def make_set(carpet):
    """The carpet that set keeps."""
    return carpet


def make_moved(carpet, kind, shift):
    """The carpet that move keeps."""
    return carpet * Motion(kind, shift)


def make_filled(carpet, place, colour):
    """The carpet that fill keeps."""
    return repainted(carpet, place, colour)


def make_overlay(top, below, colour):
    """The carpet that overlay keeps."""
    return overlay(top, below, clear=colour)


def make_paired(one, other):
    """The carpet that pair keeps."""
    return paired(one, other)


def make_merged(one, other):
    """The carpet that merge keeps."""
    return merged(one, other)


TELLERS = {
    "show": tell_carpet,
    "net": tell_net,
    "at": tell_colour,
    "touching": tell_touching,
    "finer": tell_finer,
    "joined": tell_joined,
    "parts": tell_parts,
}

MAKERS = {
    "set": make_set,
    "move": make_moved,
    "fill": make_filled,
    "overlay": make_overlay,
    "pair": make_paired,
    "merge": make_merged,
}


class Console:
    """Carpets that are kept by names, and the commands that make and describe them."""

    def __init__(self):
        self._kept = {}

    def _found(self, name):
        """The carpet that is kept under a name."""
        if name not in self._kept:
            raise UnknownName(name)
        return self._kept[name]

    def _made(self, word, name, arguments):
        """Keep under a name what a command makes, and answer."""
        maker = MAKERS[word]
        carpet = maker(*arguments)
        self._kept[name] = carpet
        return "ok" if word == "set" else show_carpet(carpet)

    def execute(self, line):
        """Perform a command and return its answer."""
        word, given = read_command(line)
        arguments = [self._found(value) if kind == "name" else value for kind, value in zip(FORMS[word], given)]
        if word == "names":
            return joined_or_dash(sorted(list(self._kept)))
        if word == "drop":
            del self._kept[given[0]]
            return "ok"
        if word in MAKERS:
            return self._made(word, given[0], arguments[1:])
        teller = TELLERS[word]
        return teller(*arguments)

    def __len__(self):
        return len(self._kept)
