import inspect
import itertools
import unittest

from carpets.carpets import Carpet
from carpets.errors import InvalidColour, InvalidNumber, InvalidTable, LimitExceeded
from carpets.motions import Motion
from carpets.nets import Net
from carpets.weaving import layered, masked, overlay, recoloured, uncovered
from models import BIG, BIGGER, FAR, SAMPLES, WINDOW, all_nets, all_texts, marks
from odd_values import NO_COLOURS, Stubborn, assert_raises

LETTERS = "abcdefghijklmnopqrstuvwxyz"

# 40 times 50 places are as many as allowed, 3 times 667 one more; their common nets have just these sizes.
LIMIT = (Carpet([("a" * 39) + "b"]), marks(Net(1, 0, 50)))
BEYOND = (Carpet(["aab"]), marks(Net(1, 0, 667)))
FAR_BEYOND = (marks(Net(1999, 3, 1)), marks(Net(1, 0, 2000)))

SMALL = [Carpet.on(net, text) for size in range(1, 4) for net in all_nets(size) for text in all_texts(size, "ab")]
NETS = [net for size in range(1, 5) for net in all_nets(size)]


class Examples(unittest.TestCase):
    def test_examples_of_the_document(self):
        top, below = Carpet(["aab"]), Carpet(["cd"])
        result = overlay(top, below, clear="a")
        self.assertEqual(
            repr((result, uncovered(result, top, Net(2, 0, 1), clear="a"),
                  uncovered(result, top, Net(1, 0, 1), clear="a"))),
            "(Carpet(['cdbdcb'], shift=0), Carpet(['cd'], shift=0), None)",
        )
        self.assertEqual(
            repr((layered(top, Carpet(["a", "e"]), below, clear="a").rows, masked(below, top, shown="b", blank="z"))),
            "(['cdbdcb', 'eebeeb'], Carpet(['zzczzd'], shift=0))",
        )

    def test_arguments_by_name(self):
        top, below = Carpet(["aab"]), Carpet(["cd"])
        result = Carpet(["cdbdcb"])
        self.assertEqual(overlay(clear="a", below=below, top=top), result)
        self.assertEqual(masked(blank="z", shown="b", mask=top, carpet=below), Carpet(["zzczzd"]))
        self.assertEqual(uncovered(clear="a", net=Net(2, 0, 1), top=top, result=result), below)
        self.assertEqual(recoloured(table={"a": "d"}, carpet=top), Carpet(["ddb"]))

    def test_parameters(self):
        self.assertEqual(str(inspect.signature(overlay)), "(top, below, *, clear)")
        self.assertEqual(str(inspect.signature(layered)), "(*layers, clear)")
        self.assertEqual(str(inspect.signature(masked)), "(carpet, mask, *, shown, blank)")
        self.assertEqual(str(inspect.signature(uncovered)), "(result, top, net, *, clear)")
        self.assertEqual(str(inspect.signature(recoloured)), "(carpet, table)")

    def test_what_is_passed_by_name_only(self):
        one = Carpet(["ab"])
        for call in (
            lambda: overlay(one, one, "a"), lambda: masked(one, one, "a", "b"),
            lambda: uncovered(one, one, Net(2, 0, 1), "a"), lambda: overlay(one, one), lambda: layered(one, one),
            lambda: masked(one, one, shown="a"), lambda: masked(one, one, blank="a"),
        ):
            with self.assertRaises(TypeError):
                call()


class Overlays(unittest.TestCase):
    def test_each_place(self):
        for top, below in itertools.product(SAMPLES, repeat=2):
            for clear in "abz":
                result = overlay(top, below, clear=clear)
                for place in WINDOW[::2] + FAR:
                    wanted = below[place] if top[place] == clear else top[place]
                    self.assertEqual(result[place], wanted)

    def test_a_top_without_the_colour_and_one_with_nothing_else(self):
        for top, below in itertools.product(SAMPLES, repeat=2):
            self.assertEqual(overlay(top, below, clear="z"), top)
            self.assertEqual(overlay(Carpet(["z"]), below, clear="z"), below)

    def test_the_colour_clear_below_stays(self):
        self.assertEqual(overlay(Carpet(["ab"]), Carpet(["ac", "aa"]), clear="a"), Carpet(["ab"]))
        self.assertEqual(overlay(Carpet(["ab"]), Carpet(["ca", "aa"]), clear="a"), Carpet(["cb", "ab"]))

    def test_the_net_may_be_greater_than_the_common_one(self):
        self.assertEqual(overlay(Carpet(["ab"]), Carpet(["ba"]), clear="a"), Carpet(["b"]))

    def test_the_carpets_are_not_changed(self):
        top, below = Carpet(["aab"]), Carpet(["cd"], shift=1)
        overlay(top, below, clear="a")
        self.assertEqual(repr((top, below)), "(Carpet(['aab'], shift=0), Carpet(['cd'], shift=1))")

    def test_other_values(self):
        for value in NO_COLOURS:
            assert_raises(self, InvalidColour, "value", value, overlay, *LIMIT, clear=value)
            assert_raises(self, InvalidColour, "value", value, overlay, *BEYOND, clear=value)

    def test_the_size_of_the_limit(self):
        for top, below in (LIMIT, LIMIT[::-1]):
            result = overlay(top, recoloured(below, {"b": "c"}), clear="a")
            self.assertLessEqual(len(result), 2000)
            for place in [(39, 0), (0, 0), (39, 50), (0, 50 * BIG), (40 * BIG - 1, BIG), (7, 7)]:
                wanted = recoloured(below, {"b": "c"})[place] if top[place] == "a" else top[place]
                self.assertEqual(result[place], wanted)
        self.assertEqual(len(overlay(marks(Net(40, 0, 50)), Carpet(["c"]), clear="a")), 2000)

    def test_past_the_limit(self):
        for top, below in (BEYOND, BEYOND[::-1], FAR_BEYOND, FAR_BEYOND[::-1]):
            assert_raises(self, LimitExceeded, "limit", 2000, overlay, top, below, clear="a")
            assert_raises(self, LimitExceeded, "limit", 2000, overlay, top, below, clear="z")

    def test_moved_and_with_exchanged_colours(self):
        exchange = {"a": "c", "b": "a", "c": "d", "d": "b"}
        for top, below in itertools.product(SAMPLES[2:8], repeat=2):
            result = overlay(top, below, clear="a")
            changed = overlay(recoloured(top, exchange), recoloured(below, exchange), clear="c")
            self.assertEqual(changed, recoloured(result, exchange))
            for motion in (Motion("left", (1, 2)), Motion("cross"), Motion.by((BIG, -BIGGER))):
                self.assertEqual(overlay(top * motion, below * motion, clear="a"), result * motion)


class Layers(unittest.TestCase):
    def first_colour(self, layers, place, clear):
        for layer in layers:
            if layer[place] != clear:
                return layer[place]
        return clear

    def test_each_place(self):
        for number in range(1, 4):
            for layers in list(itertools.product(SAMPLES[1:9], repeat=number))[::5]:
                for clear in "ab":
                    result = layered(*layers, clear=clear)
                    for place in WINDOW[::7] + FAR[:2]:
                        self.assertEqual(result[place], self.first_colour(layers, place, clear))

    def test_one_layer(self):
        for layer in SAMPLES:
            for clear in "abz":
                self.assertEqual(layered(layer, clear=clear), layer)

    def test_the_order_of_the_layers(self):
        self.assertEqual(layered(Carpet(["ab"]), Carpet(["cc"]), Carpet(["dd"]), clear="a"), Carpet(["cb"]))
        self.assertEqual(layered(Carpet(["ab"]), Carpet(["dd"]), Carpet(["cc"]), clear="a"), Carpet(["db"]))

    def test_clear_everywhere(self):
        self.assertEqual(layered(Carpet(["x"]), Carpet(["x", "x"]), clear="x"), Carpet(["x"]))

    def test_many_layers(self):
        layers = [Carpet(["a" * 24 + "b"]) + (k, 0) for k in range(2000)]
        self.assertEqual(layered(*layers, clear="a"), Carpet(["b"]))
        self.assertEqual(layered(*layers[:24], clear="a"), Carpet(["b" * 23 + "ab"]))

    def test_no_layers(self):
        assert_raises(self, InvalidNumber, "value", 0, layered, clear="a")

    def test_other_values(self):
        for value in NO_COLOURS:
            assert_raises(self, InvalidColour, "value", value, layered, *LIMIT, clear=value)

    def test_the_limit(self):
        self.assertEqual(layered(*LIMIT, clear="z"), LIMIT[0])
        nets = [Net(4, 0, 1), Net(10, 0, 1), Net(1, 0, 25), Net(20, 0, 1), Net(1, 0, 50)]
        layers = [marks(net) for net in nets]
        self.assertEqual(layered(*layers, clear="b")[0, 0], "b")
        assert_raises(self, LimitExceeded, "limit", 2000, layered, *layers, marks(Net(101, 0, 1)), clear="b")
        assert_raises(self, LimitExceeded, "limit", 2000, layered, *BEYOND, clear="a")
        assert_raises(self, LimitExceeded, "limit", 2000, layered, Carpet(["b"]), Carpet(["ab"]), *BEYOND, clear="a")
        primes = [marks(Net(prime, 1, 1)) for prime in (1999, 1997, 1993, 1987, 1979, 1973) * 50]
        assert_raises(self, LimitExceeded, "limit", 2000, layered, *primes, clear="a")

    def test_the_order_of_the_errors(self):
        for value in ("ab", None, Stubborn()):
            assert_raises(self, InvalidColour, "value", value, layered, clear=value)
            assert_raises(self, InvalidColour, "value", value, layered, *BEYOND, clear=value)


class Masks(unittest.TestCase):
    def test_each_place(self):
        for carpet, mask in itertools.product(SAMPLES, repeat=2):
            for shown, blank in (("b", "z"), ("ac", "a"), ("", "q"), (LETTERS, "z"), ("bdb", "b")):
                result = masked(carpet, mask, shown=shown, blank=blank)
                for place in WINDOW[::3] + FAR[:3]:
                    wanted = carpet[place] if mask[place] in shown else blank
                    self.assertEqual(result[place], wanted)

    def test_nothing_shown_and_all_shown(self):
        self.assertEqual(masked(Carpet(["abc"]), Carpet(["xy"]), shown="", blank="q"), Carpet(["q"]))
        self.assertEqual(masked(Carpet(["abc"]), Carpet(["xy"]), shown="yx", blank="q"), Carpet(["abc"]))

    def test_26_letters_and_one_more(self):
        one = Carpet(["ab"])
        self.assertEqual(masked(one, one, shown=LETTERS, blank="c"), one)
        self.assertEqual(masked(one, one, shown="a" * 26, blank="c"), Carpet(["ac"]))
        for value in (LETTERS + "a", "a" * 27, "a" * 20000):
            assert_raises(self, InvalidColour, "value", value, masked, one, one, shown=value, blank="c")

    def test_other_values_shown(self):
        for value in NO_COLOURS:
            if not isinstance(value, str) or value not in ("", "ab", "aa"):
                assert_raises(self, InvalidColour, "value", value, masked, *LIMIT, shown=value, blank="c")
        for value in ("aB", "a b", "a\n", "ab\u00e9", ["a", "b"], ("a",), {"a": "b"}):
            assert_raises(self, InvalidColour, "value", value, masked, *LIMIT, shown=value, blank="c")

    def test_other_values_blank(self):
        for value in NO_COLOURS:
            for shown in ("", "a", "ab"):
                assert_raises(self, InvalidColour, "value", value, masked, *LIMIT, shown=shown, blank=value)

    def test_the_limit(self):
        self.assertEqual(masked(*LIMIT, shown="ab", blank="z"), LIMIT[0])
        for carpet, mask in (BEYOND, BEYOND[::-1], FAR_BEYOND):
            assert_raises(self, LimitExceeded, "limit", 2000, masked, carpet, mask, shown="", blank="z")

    def test_the_order_of_the_errors(self):
        one = Carpet(["ab"])
        assert_raises(self, InvalidColour, "value", "A", masked, one, one, shown="A", blank="B")
        assert_raises(self, InvalidColour, "value", "A", masked, *BEYOND, shown="A", blank="a")
        assert_raises(self, InvalidColour, "value", "B", masked, *BEYOND, shown="a", blank="B")


class Uncovered(unittest.TestCase):
    def least_by_trying(self, top, net, clear):
        """The overlays of top and the carpets that a net keeps, each with the first of these that gives it."""
        found = []
        for text in all_texts(net.size, "abc"):
            carpet = Carpet.on(net, text)
            result = overlay(top, carpet, clear=clear)
            if all(result != other for other, _ in found):
                found.append((result, carpet))
        return found

    def test_small_carpets_by_trying_all_texts(self):
        results = SMALL[::3] + [Carpet(["abc"]), Carpet(["acb"], shift=1), Carpet(["c", "a"]), Carpet(["cc", "ca"])]
        for top, net, clear in itertools.product(SMALL[::2], NETS[::2], "ac"):
            found = self.least_by_trying(top, net, clear)
            for result, least in found:
                self.assertEqual(uncovered(result, top, net, clear=clear), least)
            for result in results:
                if all(result != other for other, _ in found):
                    self.assertIsNone(uncovered(result, top, net, clear=clear))

    def test_results_of_overlays(self):
        for top, below in itertools.product(SAMPLES[2:], repeat=2):
            for clear in "ab":
                result = overlay(top, below, clear=clear)
                found = uncovered(result, top, below.net, clear=clear)
                self.assertEqual(overlay(top, found, clear=clear), result)
                self.assertTrue(below.net.is_within(found.net))
                for colour, least in zip(below.text, [found[place] for place in below.net.cell()]):
                    self.assertIn(least, (colour, "a"))

    def test_places_that_are_covered_everywhere_get_the_least_colour(self):
        top = Carpet(["zb"])
        self.assertEqual(uncovered(Carpet(["cb"]), top, Net(2, 0, 1), clear="z"), Carpet(["ca"]))
        self.assertEqual(uncovered(Carpet(["b"]), Carpet(["b"]), Net(3, 1, 2), clear="z"), Carpet(["a"]))

    def test_another_colour_where_top_is_not_clear(self):
        self.assertIsNone(uncovered(Carpet(["cb"]), Carpet(["zd"]), Net(2, 0, 1), clear="z"))
        self.assertIsNone(uncovered(Carpet(["z"]), Carpet(["zd"]), Net(2, 0, 1), clear="z"))

    def test_two_colours_for_one_place(self):
        self.assertIsNone(uncovered(Carpet(["cd"]), Carpet(["z"]), Net(1, 0, 1), clear="z"))
        self.assertIsNone(uncovered(Carpet(["cd"]), Carpet(["z"]), Net(2, 1, 1), clear="z"))
        self.assertEqual(uncovered(Carpet(["cd"]), Carpet(["z"]), Net(2, 0, 5), clear="z"), Carpet(["cd"]))

    def test_a_result_with_the_colour_clear(self):
        self.assertEqual(uncovered(Carpet(["zb"]), Carpet(["zb"]), Net(2, 0, 1), clear="z"), Carpet(["za"]))

    def test_other_values(self):
        for value in NO_COLOURS:
            assert_raises(self, InvalidColour, "value", value, uncovered, *LIMIT, Net(1, 0, 1), clear=value)
            assert_raises(self, InvalidColour, "value", value, uncovered, *BEYOND, Net(1, 0, 1), clear=value)

    def test_the_limit(self):
        one = Carpet(["a"])
        found = uncovered(one, one, Net(2000, 7, 1), clear="b")
        self.assertEqual(found, one)
        found = uncovered(marks(Net(40, 3, 50)), one, Net(40, 3, 50), clear="a")
        self.assertEqual(found, marks(Net(40, 3, 50)))
        self.assertIsNone(uncovered(marks(Net(40, 0, 1)), marks(Net(1, 0, 5)), Net(1, 0, 50), clear="a"))
        for result, top, net in (
            (one, one, Net(2001, 0, 1)), (one, one, Net(BIG, 5, BIGGER)), (*BEYOND, Net(1, 0, 1)),
            (BEYOND[0], one, Net(1, 0, 667)), (one, BEYOND[0], Net(1, 0, 667)), (*FAR_BEYOND, Net(1, 0, 1)),
            (Carpet(["b"]), one, Net(2001, 0, 1)), (marks(Net(29, 0, 1)), marks(Net(1, 0, 23)), Net(3, 1, 1)),
        ):
            assert_raises(self, LimitExceeded, "limit", 2000, uncovered, result, top, net, clear="c")


class Recoloured(unittest.TestCase):
    def test_each_place(self):
        for carpet in SAMPLES:
            for table in ({}, {"a": "b"}, {"a": "b", "b": "a"}, {"a": "z", "c": "z", "x": "y"}, {"a": "a"}):
                result = recoloured(carpet, table)
                for place in WINDOW[::3] + FAR:
                    self.assertEqual(result[place], table.get(carpet[place], carpet[place]))

    def test_all_colours_are_replaced_at_once(self):
        self.assertEqual(recoloured(Carpet(["abc"]), {"a": "b", "b": "c", "c": "a"}), Carpet(["bca"]))

    def test_the_net_may_become_greater(self):
        self.assertEqual(recoloured(Carpet(["abac"]), {"c": "b"}), Carpet(["ab"]))

    def test_exchanged_colours_keep_the_net(self):
        table = {letter: LETTERS[25 - k] for k, letter in enumerate(LETTERS)}
        for carpet in SAMPLES:
            self.assertEqual(recoloured(carpet, table).net, carpet.net)
            self.assertEqual(recoloured(recoloured(carpet, table), table), carpet)

    def test_great_cells(self):
        for net in (Net(2000, 3, 1), Net(1, 0, 2000)):
            self.assertEqual(recoloured(marks(net), {"a": "b", "b": "c"}), marks(net, "c", "b"))

    def test_the_table_is_not_changed_and_not_kept(self):
        table = {"a": "b"}
        result = recoloured(Carpet(["ac"]), table)
        self.assertEqual(table, {"a": "b"})
        table["a"] = "z"
        self.assertEqual(result, Carpet(["bc"]))

    def test_other_values(self):
        values = [None, True, 0, "ab", "", ["a", "b"], [("a", "b")], (("a", "b"),), {"a"}, Stubborn(), dict]
        for value in NO_COLOURS:
            if not isinstance(value, (list, dict, set, Stubborn)):
                values.append({value: "a"})
                values.append({"a": "b", value: "b"})
            values.append({"a": value})
            values.append({"a": "b", "b": value})
            values.append({"x": value})
        for value in values:
            assert_raises(self, InvalidTable, "value", value, recoloured, Carpet(["ab"]), value)


if __name__ == "__main__":
    unittest.main()
