"""Looms: carpets that are made action by action, with undo."""

from carpets.carpets import CELL_LIMIT, Carpet, text_on
from carpets.checks import check_colour, check_place
from carpets.errors import CarpetError, InvalidNet, LimitExceeded, NothingToUndo, RunFailed
from carpets.nets import cell_places
from carpets.parts import repainted
from carpets.weaving import overlay

# How many values the tuple of each action has.
LENGTHS = {"paint": 3, "cover": 3, "move": 2, "fill": 3}


def painted(net, carpet, place, colour):
    """The carpet in which all places that differ from a place by shifts of the net have the colour."""
    check_place(place)
    check_colour(colour)
    homes = cell_places(net)
    letters = list(text_on(net, carpet))
    letters[homes.index(net.reduced(place))] = colour
    return Carpet.on(net, "".join(letters))


def laid_on(net, carpet, top, clear):
    """The overlay of top and the carpet, if the net keeps it."""
    check_colour(clear)
    if not net.is_within(top.net):
        raise InvalidNet(top.net)
    return overlay(top, carpet, clear=clear)


def shifted(carpet, shift):
    """The carpet moved by a shift."""
    check_place(shift)
    return carpet + shift


def is_action(value):
    """Whether any value is a tuple of one of the forms of actions."""
    if not isinstance(value, tuple) or len(value) == 0 or not isinstance(value[0], str):
        return False
    if len(value) != LENGTHS.get(value[0]):
        return False
    return value[0] != "cover" or isinstance(value[1], Carpet)


def after(net, carpet, action):
    """The carpet after an action, which is a tuple of one of the forms."""
    if action[0] == "paint":
        return painted(net, carpet, action[1], action[2])
    if action[0] == "cover":
        return laid_on(net, carpet, action[1], action[2])
    if action[0] == "move":
        return shifted(carpet, action[1])
    return repainted(carpet, action[1], action[2])


def after_all(net, carpet, actions):
    """The carpet after the actions of a list; raises RunFailed with the index of the first one that fails."""
    for index, action in enumerate(actions):
        if not is_action(action):
            raise RunFailed(index)
        try:
            carpet = after(net, carpet, action)
        except CarpetError as error:
            raise RunFailed(index) from error
    return carpet


class Loom:
    """A carpet on a fixed net, and the actions that made it."""

    def __init__(self, net, *, colour="a"):
        carpet = Carpet.plain(colour)
        if net.size > CELL_LIMIT:
            raise LimitExceeded(CELL_LIMIT)
        self._net = net
        self._carpet = carpet
        # Carpets never change, so those before each action, and those after each undone one, are kept.
        self._before = []
        self._undone = []
        self._log = []

    @property
    def net(self):
        """The net, which never changes."""
        return self._net

    @property
    def carpet(self):
        """The carpet after all actions that are not undone."""
        return self._carpet

    @property
    def log(self):
        """The list of the texts that the calls of run have left."""
        return list(self._log)

    def _become(self, carpet):
        """Do an action with this result."""
        self._before.append(self._carpet)
        self._carpet = carpet
        self._undone.clear()

    def paint(self, place, colour):
        """Give the colour to all places that differ from a place by shifts of the net."""
        self._become(painted(self._net, self._carpet, place, colour))

    def cover(self, top, *, clear):
        """Lay a carpet on the carpet; its colour clear shows what is below."""
        self._become(laid_on(self._net, self._carpet, top, clear))

    def move(self, shift):
        """Move the carpet by a shift."""
        self._become(shifted(self._carpet, shift))

    def fill(self, place, colour):
        """Give the colour to all parts of the class of the part of a place."""
        self._become(repainted(self._carpet, place, colour))

    def undo(self):
        """Take back the last action."""
        if len(self._before) == 0:
            raise NothingToUndo()
        self._undone.append(self._carpet)
        self._carpet = self._before.pop()

    def redo(self):
        """Do the last action again that was taken back."""
        if len(self._undone) == 0:
            raise NothingToUndo()
        self._before.append(self._carpet)
        self._carpet = self._undone.pop()

    def run(self, actions):
        """Do all actions of a list in order, as one action, or none of them."""
        self._log.append("begin")
        try:
            self._become(after_all(self._net, self._carpet, actions))
        finally:
            self._log.append("end")

    def copy(self):
        """An independent loom with the same actions, also those that were taken back, and an empty log."""
        loom = Loom(self._net)
        loom._carpet = self._carpet
        loom._before = list(self._before)
        loom._undone = list(self._undone)
        return loom

    def __eq__(self, other):
        return isinstance(other, Loom) and self._net == other._net and self._carpet == other._carpet

    def __len__(self):
        return len(self._before)
