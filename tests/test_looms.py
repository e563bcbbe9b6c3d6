import inspect
import itertools
import unittest
import unittest.mock

from carpets.carpets import Carpet
from carpets.errors import (
    InvalidColour, InvalidNet, InvalidPlace, LimitExceeded, NothingToUndo, RunFailed,
)
from carpets.looms import Loom
from carpets.nets import Net
from carpets.parts import repainted
from carpets.weaving import overlay
from models import BIG, BIGGER, SAMPLES, square
from odd_values import NO_COLOURS, NO_PLACES, Stubborn, assert_raises

NET = Net(4, 2, 2)
TOP = Carpet(["ab"], shift=1)

# Actions as tuples of run, and as calls of the methods.
ACTIONS = [
    (("paint", (3, 3), "b"), lambda loom: loom.paint((3, 3), "b")),
    (("paint", (BIG, -BIGGER), "c"), lambda loom: loom.paint((BIG, -BIGGER), "c")),
    (("cover", TOP, "b"), lambda loom: loom.cover(TOP, clear="b")),
    (("cover", TOP, "z"), lambda loom: loom.cover(TOP, clear="z")),
    (("move", (1, 0)), lambda loom: loom.move((1, 0))),
    (("move", (-BIG, BIGGER)), lambda loom: loom.move((-BIG, BIGGER))),
    (("fill", (0, 0), "d"), lambda loom: loom.fill((0, 0), "d")),
    (("fill", (5, BIG), "a"), lambda loom: loom.fill((5, BIG), "a")),
]


def used(loom):
    """A loom after some actions, of which the last one was taken back."""
    loom.paint((0, 0), "b")
    loom.move((1, 1))
    loom.paint((2, 0), "c")
    loom.undo()
    return loom


def shown(loom):
    """All that a loom shows, besides what undo and redo would lead to."""
    return (loom.net.numbers, repr(loom.carpet), loom.log, len(loom))


def steps(loom):
    """The carpets to which undo and redo lead, from the first one to the last one."""
    loom = loom.copy()
    while len(loom):
        loom.undo()
    found = [loom.carpet]
    while True:
        try:
            loom.redo()
        except NothingToUndo:
            return found
        found.append(loom.carpet)


class Making(unittest.TestCase):
    def test_example_of_the_document(self):
        loom = Loom(Net(2, 0, 2))
        loom.paint((3, 3), "b")
        loom.run([("paint", (0, 0), "b"), ("move", (1, 0))])
        self.assertEqual(
            repr((loom.carpet, len(loom), loom.log)), "(Carpet(['ab'], shift=1), 2, ['begin', 'end'])")

    def test_at_first(self):
        loom = Loom(NET)
        self.assertEqual((loom.net, loom.carpet, loom.log, len(loom)), (NET, Carpet(["a"]), [], 0))
        self.assertEqual(Loom(NET, colour="q").carpet, Carpet(["q"]))

    def test_parameters(self):
        self.assertEqual(str(inspect.signature(Loom)), "(net, *, colour='a')")
        for name, wanted in (
            ("paint", "(self, place, colour)"), ("cover", "(self, top, *, clear)"), ("move", "(self, shift)"),
            ("fill", "(self, place, colour)"), ("undo", "(self)"), ("redo", "(self)"), ("run", "(self, actions)"),
            ("copy", "(self)"),
        ):
            self.assertEqual(str(inspect.signature(Loom.__dict__[name])), wanted)
        with self.assertRaises(TypeError):
            Loom(NET, "b")
        with self.assertRaises(TypeError):
            Loom(NET).cover(TOP, "b")

    def test_the_interface_stands_in_the_class(self):
        self.assertEqual(Loom.__module__, "carpets.looms")
        for name in ("net", "carpet", "log"):
            self.assertIsInstance(Loom.__dict__[name], property)
        for name in ("__init__", "__len__", "__eq__"):
            self.assertIn(name, Loom.__dict__)

    def test_arguments_by_name(self):
        loom = Loom(colour="b", net=Net(2, 0, 1))
        loom.paint(colour="c", place=(1, 0))
        loom.cover(clear="a", top=Carpet(["da"]))
        loom.move(shift=(1, 0))
        loom.fill(colour="e", place=(0, 0))
        loom.run(actions=[])
        self.assertEqual((loom.carpet, len(loom)), (Carpet(["ed"]), 5))

    def test_other_colours(self):
        for value in NO_COLOURS:
            assert_raises(self, InvalidColour, "value", value, Loom, NET, colour=value)
            assert_raises(self, InvalidColour, "value", value, Loom, Net(2001, 0, 1), colour=value)

    def test_the_limit(self):
        for net in (Net(2000, 3, 1), Net(1, 0, 2000), Net(40, 7, 50)):
            loom = Loom(net)
            loom.paint((BIG, BIGGER), "b")
            self.assertEqual((len(loom.carpet), loom.carpet[BIG, BIGGER]), (2000, "b"))
        for net in (Net(2001, 0, 1), Net(1, 0, 2001), Net(3, 1, 667), Net(BIG, 5, BIGGER)):
            assert_raises(self, LimitExceeded, "limit", 2000, Loom, net)

    def test_properties_are_not_set(self):
        for name in ("net", "carpet", "log"):
            with self.assertRaises(AttributeError):
                setattr(Loom(NET), name, None)

    def test_actions_return_nothing(self):
        loom = Loom(NET)
        for _, call in ACTIONS:
            self.assertIsNone(call(loom))
        for result in (loom.undo(), loom.redo(), loom.run([])):
            self.assertIsNone(result)


class Actions(unittest.TestCase):
    def test_paint(self):
        for net in (NET, Net(3, 1, 2), Net(1, 0, 1), Net(1, 0, 3)):
            for place in list(net.cell()) + [(-5, 7), (BIG, -BIGGER)]:
                loom = Loom(net)
                loom.paint(net.reduced((1, 1)), "c")
                before = loom.carpet
                loom.paint(place, "b")
                for x, y in square(4):
                    painted = (x - place[0], y - place[1]) in net
                    self.assertEqual(loom.carpet[x, y], "b" if painted else before[x, y])

    def test_cover(self):
        few = [TOP, Carpet(["ab"]), Carpet(["c"]), Carpet(["ab", "cd"])]
        for net, tops in ((NET, few), (Net(6, 0, 6), SAMPLES[:7])):
            for top, clear in itertools.product(tops, "abz"):
                loom = Loom(net, colour="x")
                loom.paint((0, 0), "y")
                before = loom.carpet
                loom.cover(top, clear=clear)
                self.assertEqual(loom.carpet, overlay(top, before, clear=clear))
                for place in square(3):
                    self.assertEqual(loom.carpet[place], before[place] if top[place] == clear else top[place])

    def test_cover_with_a_top_that_the_net_does_not_keep(self):
        for net, top in ((NET, Carpet(["aab"])), (Net(2, 0, 2), Carpet(["abcd"])), (Net(1, 0, 1), Carpet(["ab"]))):
            loom = used(Loom(net))
            before = shown(loom)
            with self.assertRaises(InvalidNet) as caught:
                loom.cover(top, clear="a")
            self.assertEqual(caught.exception.value, top.net)
            self.assertEqual(shown(loom), before)

    def test_a_top_that_is_kept_by_the_carpet_but_not_by_the_net(self):
        loom = Loom(Net(4, 0, 1))
        self.assertEqual(loom.carpet.net, Net(1, 0, 1))
        loom.cover(Carpet(["abcd"]), clear="a")
        loom.cover(Carpet(["abab"]), clear="a")
        self.assertEqual(loom.carpet, Carpet(["abcb"]))
        with self.assertRaises(InvalidNet):
            Loom(Net(2, 0, 1)).cover(Carpet(["abcd"]), clear="a")

    def test_move(self):
        loom = used(Loom(NET))
        before = loom.carpet
        loom.move((-3, 8))
        self.assertEqual(loom.carpet, before + (-3, 8))
        loom.move((BIG, BIGGER))
        self.assertEqual(loom.carpet, before + (BIG - 3, BIGGER + 8))
        self.assertEqual(loom.net, NET)

    def test_fill(self):
        for carpet in (Carpet(["aabb", "abba"]), Carpet(["ab", "ba"]), Carpet(["aab"], shift=1)):
            for place in list(carpet.net.cell()) + [(BIG, -5)]:
                loom = Loom(carpet.net, colour="x")
                loom.cover(carpet, clear="x")
                loom.fill(place, "c")
                self.assertEqual(loom.carpet, repainted(carpet, place, "c"))

    def test_fill_goes_on_where_the_carpet_repeats_sooner_than_the_net(self):
        loom = Loom(Net(4, 0, 1))
        loom.cover(Carpet(["ab"]), clear="z")
        loom.fill((0, 0), "c")
        self.assertEqual(loom.carpet, Carpet(["cb"]))
        loom = Loom(Net(4, 0, 1))
        loom.cover(Carpet(["ab"]), clear="z")
        loom.paint((0, 0), "c")
        self.assertEqual(loom.carpet, Carpet(["cbab"]))

    def test_the_carpet_is_always_kept_by_the_net(self):
        for chosen in itertools.product(ACTIONS, repeat=3):
            loom = Loom(NET)
            for _, call in chosen:
                call(loom)
                self.assertTrue(NET.is_within(loom.carpet.net))

    def test_other_places(self):
        for value in NO_PLACES:
            loom = used(Loom(NET))
            before = (shown(loom), steps(loom))
            for colour in ("a", "A", None):
                assert_raises(self, InvalidPlace, "value", value, loom.paint, value, colour)
                assert_raises(self, InvalidPlace, "value", value, loom.fill, value, colour)
            assert_raises(self, InvalidPlace, "value", value, loom.move, value)
            self.assertEqual((shown(loom), steps(loom)), before)

    def test_other_colours(self):
        for value in NO_COLOURS:
            loom = used(Loom(NET))
            before = (shown(loom), steps(loom))
            assert_raises(self, InvalidColour, "value", value, loom.paint, (0, 0), value)
            assert_raises(self, InvalidColour, "value", value, loom.fill, (0, 0), value)
            assert_raises(self, InvalidColour, "value", value, loom.cover, TOP, clear=value)
            assert_raises(self, InvalidColour, "value", value, loom.cover, Carpet(["aab"]), clear=value)
            self.assertEqual((shown(loom), steps(loom)), before)


class Undoing(unittest.TestCase):
    def test_all_the_way_back_and_forth(self):
        for chosen in itertools.product(ACTIONS[::2], repeat=4):
            loom = Loom(NET, colour="b")
            carpets = [loom.carpet]
            for _, call in chosen:
                call(loom)
                carpets.append(loom.carpet)
                self.assertEqual(len(loom), len(carpets) - 1)
            for number in (3, 2, 1, 0):
                loom.undo()
                self.assertEqual((loom.carpet, len(loom)), (carpets[number], number))
            for number in (1, 2, 3, 4):
                loom.redo()
                self.assertEqual((loom.carpet, len(loom)), (carpets[number], number))

    def test_nothing_to_undo(self):
        loom = Loom(NET)
        for call in (loom.undo, loom.redo):
            with self.assertRaises(NothingToUndo):
                call()
        loom.paint((0, 0), "b")
        with self.assertRaises(NothingToUndo):
            loom.redo()
        loom.undo()
        with self.assertRaises(NothingToUndo):
            loom.undo()
        self.assertEqual((loom.carpet, len(loom), loom.log), (Carpet(["a"]), 0, []))
        loom.redo()
        self.assertEqual((loom.carpet[0, 0], len(loom)), ("b", 1))

    def test_each_new_action_forgets_what_was_taken_back(self):
        for action, call in ACTIONS:
            for do in (call, lambda loom: loom.run([action]), lambda loom: loom.run([])):
                loom = used(Loom(NET))
                do(loom)
                self.assertEqual(len(loom), 3)
                with self.assertRaises(NothingToUndo):
                    loom.redo()
                loom.undo()
                loom.redo()
                self.assertEqual(len(loom), 3)

    def test_an_action_that_fails_forgets_nothing(self):
        loom = used(Loom(NET))
        for call in (
            lambda: loom.paint(None, "a"), lambda: loom.cover(Carpet(["aab"]), clear="a"), lambda: loom.move(None),
            lambda: loom.fill((0, 0), "A"), lambda: loom.run([("paint", (0, 0), "z"), ("move", None)]),
        ):
            with self.assertRaises((InvalidPlace, InvalidNet, InvalidColour, RunFailed)):
                call()
        loom.redo()
        self.assertEqual((loom.carpet[2, 0], len(loom)), ("c", 3))

    def test_an_action_that_changes_no_colour_is_an_action(self):
        loom = Loom(NET)
        loom.paint((0, 0), "a")
        loom.move((0, 0))
        loom.run([])
        self.assertEqual((loom.carpet, len(loom)), (Carpet(["a"]), 3))
        loom.undo()
        loom.undo()
        self.assertEqual(len(loom), 1)

    def test_many_actions(self):
        loom = Loom(Net(7, 3, 1))
        for k in range(1000):
            loom.paint((k, 0), "abc"[k % 3])
        self.assertEqual(len(loom), 1000)
        for _ in range(1000):
            loom.undo()
        self.assertEqual((loom.carpet, len(loom)), (Carpet(["a"]), 0))


class Running(unittest.TestCase):
    def test_the_same_as_one_after_another(self):
        for number in range(4):
            for chosen in itertools.product(ACTIONS, repeat=number):
                loom, other = Loom(NET), Loom(NET)
                loom.run([action for action, _ in chosen])
                for _, call in chosen:
                    call(other)
                self.assertEqual((loom.carpet, len(loom)), (other.carpet, 1))
                loom.undo()
                self.assertEqual((loom.carpet, len(loom)), (Carpet(["a"]), 0))
                loom.redo()
                self.assertEqual((loom.carpet, len(loom)), (other.carpet, 1))

    def test_the_log(self):
        loom = Loom(NET)
        for number in range(1, 4):
            loom.run([])
            self.assertEqual(loom.log, ["begin", "end"] * number)
        with self.assertRaises(RunFailed):
            loom.run([None])
        self.assertEqual(loom.log, ["begin", "end"] * 4)

    def test_nothing_else_changes_the_log(self):
        loom = used(Loom(NET))
        for _, call in ACTIONS:
            call(loom)
        loom.undo(), loom.redo(), loom.copy()
        for call in (lambda: loom.paint(None, "a"), lambda: loom.move(None), loom.redo):
            with self.assertRaises((InvalidPlace, NothingToUndo)):
                call()
        self.assertEqual(loom.log, [])

    def test_the_log_is_a_new_list(self):
        loom = Loom(NET)
        loom.run([])
        loom.log.clear()
        self.assertEqual(loom.log, ["begin", "end"])
        self.assertIsInstance(loom.log, list)

    def check_failure(self, actions, index, cause):
        loom = used(Loom(NET))
        before, carpets = shown(loom), steps(loom)
        with self.assertRaises(RunFailed) as caught:
            loom.run(actions)
        self.assertEqual(caught.exception.index, index)
        self.assertIs(caught.exception.__cause__.__class__, cause)
        self.assertEqual(shown(loom), before[:2] + (["begin", "end"], before[3]))
        self.assertEqual(steps(loom), carpets)

    def test_values_of_other_forms(self):
        good = ("paint", (0, 0), "b")
        values = [
            None, True, 0, "paint", "move", (), [], {}, ["paint", (0, 0), "b"], ("paint",), ("paint", (0, 0)),
            ("paint", (0, 0), "b", "c"), ("move",), ("move", 1, 0), ("move", (1, 0), "b"), ("fill", (0, 0)),
            ("cover", TOP), ("cover", TOP, "a", "b"), ("cover", ["ab"], "a"), ("cover", None, "a"),
            ("cover", TOP.net, "a"), ("cover", Loom(NET), "a"), ("cover", Carpet, "a"), ("undo",), ("redo",),
            ("run", []), ("Paint", (0, 0), "b"), (" paint", (0, 0), "b"), (b"paint", (0, 0), "b"),
            (["paint"], (0, 0), "b"), (Stubborn(), (0, 0), "b"), (None, (0, 0)), ("", (0, 0), "b"),
            ("cover", Stubborn(), "a"), Stubborn(),
        ]
        for value in values:
            self.check_failure([value], 0, None.__class__)
            self.check_failure([good, ("move", (5, 5)), value, None], 2, None.__class__)

    def test_actions_that_raise_an_error(self):
        good = ("fill", (0, 0), "b")
        for value in NO_PLACES:
            for action in (("paint", value, "b"), ("fill", value, "A"), ("move", value)):
                self.check_failure([good, action, None], 1, InvalidPlace)
        for value in NO_COLOURS:
            for action in (("paint", (0, 0), value), ("fill", (0, 0), value), ("cover", Carpet(["aab"]), value)):
                self.check_failure([good, good, action], 2, InvalidColour)
        self.check_failure([("cover", Carpet(["aab"]), "a"), None], 0, InvalidNet)

    def test_the_error_that_is_the_cause(self):
        with self.assertRaises(RunFailed) as caught:
            Loom(NET).run([("cover", Carpet(["aab"]), "a")])
        self.assertEqual(caught.exception.__cause__.value, Net(3, 0, 1))

    def test_the_list_is_not_changed(self):
        actions = [action for action, _ in ACTIONS]
        again = list(actions)
        Loom(NET).run(actions)
        self.assertEqual(len(actions), len(again))
        self.assertTrue(all(one is other for one, other in zip(actions, again)))

    def test_the_list_is_not_kept(self):
        actions = [("move", (1, 0)), ("paint", (0, 0), "b")]
        loom = Loom(NET)
        loom.run(actions)
        actions.clear()
        loom.undo()
        loom.redo()
        self.assertEqual(loom.carpet[0, 0], "b")


class Copying(unittest.TestCase):
    def test_all_actions_and_an_empty_log(self):
        loom = used(Loom(NET))
        loom.run([("paint", (0, 0), "x")])
        loom.undo()
        other = loom.copy()
        self.assertIsInstance(other, Loom)
        self.assertIsNot(other, loom)
        self.assertEqual((other.net, other.carpet, len(other), other.log), (NET, loom.carpet, 2, []))
        self.assertEqual(steps(other), steps(loom))
        other.redo()
        self.assertEqual((other.carpet[0, 0], len(other)), ("x", 3))

    def test_independent(self):
        loom = used(Loom(NET))
        before, carpets = shown(loom), steps(loom)
        other = loom.copy()
        other.redo()
        other.paint((0, 0), "z")
        other.run([])
        other.undo()
        other.undo()
        self.assertEqual((shown(loom), steps(loom)), (before, carpets))
        other = loom.copy()
        again = (shown(other), steps(other))
        loom.undo()
        loom.undo()
        loom.run([("move", (1, 0))])
        self.assertEqual((shown(other), steps(other)), again)

    def test_a_new_loom(self):
        other = Loom(NET, colour="c").copy()
        self.assertEqual((other.carpet, len(other)), (Carpet(["c"]), 0))


class Comparing(unittest.TestCase):
    def test_nets_and_carpets(self):
        looms = [
            (net, word, loom) for net in (NET, Net(2, 0, 2), Net(4, 0, 2)) for word, loom in (
                ("a", Loom(net)), ("b", Loom(net, colour="b")), ("painted", Loom(net)), ("moved", Loom(net)),
                ("undone", Loom(net)), ("run", Loom(net)),
            )
        ]
        same = {"undone": "a", "run": "a"}
        for net, word, loom in looms:
            if word in ("painted", "moved", "undone"):
                loom.paint((0, 0), "c")
            if word == "moved":
                loom.move((1, 0))
            if word == "undone":
                loom.undo()
            if word == "run":
                loom.run([])
        for (net, word, loom), (other_net, other_word, other) in itertools.product(looms, repeat=2):
            wanted = net == other_net and same.get(word, word) == same.get(other_word, other_word)
            self.assertIs(loom == other, wanted, (word, other_word))
            self.assertIs(loom != other, not wanted)

    def test_values_of_other_kinds(self):
        loom = Loom(NET)
        for value in NO_PLACES + [NET, loom.carpet, Loom, unittest.mock.ANY]:
            self.assertIs(loom == value, False)
            self.assertIs(loom != value, True)


if __name__ == "__main__":
    unittest.main()
