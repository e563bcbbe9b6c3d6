import inspect
import itertools
import unittest
import unittest.mock

from carpets.carpets import Carpet
from carpets.errors import InvalidColour, InvalidNumber, InvalidPlace, InvalidRows, InvalidText, LimitExceeded
from carpets.motions import Motion
from carpets.nets import Net, nets_above
from models import (
    BIG, BIGGER, FAR, SAMPLES, WINDOW, all_nets, all_texts, basis, block_colour, cell_colour, colours_at, kept_shifts,
    marks,
)
from odd_values import NO_COLOURS, NO_INTEGERS, NO_PLACES, Stubborn, assert_raises

LETTERS = "abcdefghijklmnopqrstuvwxyz"


def all_blocks():
    """Small blocks of all forms, with shifts below 0, within the rows and beyond them."""
    for width, height in ((1, 1), (2, 1), (3, 1), (4, 1), (1, 2), (1, 3), (1, 4), (2, 2), (3, 2), (2, 3)):
        for text in all_texts(width * height):
            rows = [text[k:k + width] for k in range(0, len(text), width)]
            for shift in (-4, -1, 0, 1, 2, 5):
                yield rows, shift


class Blocks(unittest.TestCase):
    def test_example_of_the_document(self):
        stairs = Carpet(["aab", "aab"], shift=-2)
        self.assertEqual(
            repr((stairs[10 ** 30 - 1, 2], stairs[2, 1], stairs.net, stairs.rows, Carpet(["ab", "ba"]))),
            "('b', 'b', Net(3, 1, 2), ['aab', 'aab'], Carpet(['ab'], shift=1))",
        )

    def test_colours_by_the_formula(self):
        for rows, shift in all_blocks():
            carpet = Carpet(rows, shift=shift)
            self.assertEqual(
                colours_at(carpet, WINDOW), [block_colour(rows, shift, place) for place in WINDOW], (rows, shift))

    def test_row_0_is_the_lowest_one(self):
        carpet = Carpet(["abc", "def"])
        self.assertEqual([carpet[0, 0], carpet[2, 0], carpet[0, 1], carpet[1, 1]], ["a", "c", "d", "e"])

    def test_the_block_above_stands_to_the_right(self):
        carpet = Carpet(["abcd", "efgh"], shift=1)
        self.assertEqual([carpet[1, 2], carpet[2, 2], carpet[1, 3], carpet[2, 4]], ["a", "b", "e", "a"])
        self.assertEqual([carpet[0, -2], carpet[-1, -2], carpet[-1, -1], carpet[3, -4]], ["b", "a", "e", "b"])

    def test_places_of_thirty_digits(self):
        for rows, shift in ((["aab", "abb"], 1), (["abcdefg"], -3), (["ab", "cd", "ef"], BIG), (["abc"], -BIGGER)):
            carpet = Carpet(rows, shift=shift)
            for place in FAR:
                self.assertEqual(carpet[place], block_colour(rows, shift, place))

    def test_great_shifts_and_shifts_below_0(self):
        for shift in range(-12, 13):
            self.assertEqual(Carpet(["aabab"], shift=shift), Carpet(["aabab"], shift=shift % 5))
            self.assertEqual(Carpet(["aabab"], shift=shift - 5 * BIG), Carpet(["aabab"], shift=shift + 5 * BIGGER))

    def test_the_shift_may_be_left_out(self):
        self.assertEqual(Carpet(["abc", "bca"]), Carpet(["abc", "bca"], shift=0))

    def test_the_rows_may_be_a_tuple(self):
        self.assertEqual(Carpet(("ab", "cd"), shift=1), Carpet(["ab", "cd"], shift=1))

    def test_arguments_by_name(self):
        self.assertEqual(Carpet(shift=1, rows=["abc"]), Carpet(["abc"], shift=1))
        self.assertEqual(Carpet.on(text="abc", net=Net(3, 1, 1)), Carpet(["abc"], shift=1))
        self.assertEqual(Carpet.plain(colour="k"), Carpet(["k"]))
        self.assertIs(Carpet(["ab"]).is_kept_by(motion=Motion("half")), True)

    def test_the_shift_is_passed_by_name_only(self):
        with self.assertRaises(TypeError):
            Carpet(["abc"], 1)

    def test_the_rows_are_copied_and_not_changed(self):
        rows = ["ab", "cd"]
        carpet = Carpet(rows)
        self.assertEqual(rows, ["ab", "cd"])
        rows[0] = "zz"
        rows.append("zz")
        self.assertEqual((carpet.text, carpet.rows), ("abcd", ["ab", "cd"]))

    def test_carpets_never_change(self):
        carpet = Carpet(["aab", "abb"], shift=1)
        shown = repr(carpet)
        for name in ("net", "text", "rows", "colours"):
            with self.assertRaises(AttributeError):
                setattr(carpet, name, "a")
        with self.assertRaises(TypeError):
            carpet[0, 0] = "b"
        carpet + (1, 2), carpet - (1, 2), carpet * Motion("left"), carpet.is_kept_by(Motion("half"))
        self.assertEqual((repr(carpet), carpet.text), (shown, "aababb"))

    def test_the_interface_stands_in_the_class(self):
        for name in ("net", "text", "rows", "colours"):
            self.assertIsInstance(Carpet.__dict__[name], property)
        self.assertIsInstance(Carpet.__dict__["on"], staticmethod)
        self.assertIsInstance(Carpet.__dict__["plain"], classmethod)
        for name in ("__init__", "__getitem__", "__add__", "__sub__", "__mul__", "__eq__", "__len__", "__repr__"):
            self.assertIn(name, Carpet.__dict__)
        self.assertIn("is_kept_by", Carpet.__dict__)
        self.assertEqual(Carpet.__module__, "carpets.carpets")


class WrongBlocks(unittest.TestCase):
    def test_rows_that_are_no_list_or_tuple(self):
        values = [None, True, 0, 7, 1.5, "ab", b"ab", {"ab"}, {"ab": 1}, {0: "ab"}, iter(["ab"]), range(2), Stubborn()]
        for value in values:
            assert_raises(self, InvalidRows, "index", None, Carpet, value)

    def test_no_rows_and_too_many_rows(self):
        for rows in ([], (), ["a"] * 101, ("a",) * 101, ["ab"] * 2000, [None] * 101, [Stubborn()] * 101):
            assert_raises(self, InvalidRows, "index", None, Carpet, rows)

    def test_as_many_rows_as_allowed(self):
        self.assertEqual(Carpet(["a"] * 99 + ["b"]).net, Net(1, 0, 100))
        self.assertEqual(Carpet(("a",) * 99 + ("b",)).net, Net(1, 0, 100))

    def test_items_that_are_no_texts_of_letters(self):
        values = [
            None, True, 0, 1.5, b"ab", ["a", "b"], ("a", "b"), "", "aB", "Ab", "a ", " b", "a1", "a.", "a\n", "\nb",
            "a`", "a{", "a\u00e9", "\u00aab", "a\u0430", Stubborn(),
        ]
        for value in values:
            for index in range(4):
                rows = ["ab"] * 4
                rows[index] = value
                assert_raises(self, InvalidRows, "index", index, Carpet, rows)
                assert_raises(self, InvalidRows, "index", index, Carpet, tuple(rows))

    def test_items_of_other_lengths(self):
        for index in range(1, 4):
            for value in ("", "a", "aba"):
                rows = ["ab"] * 4
                rows[index] = value
                assert_raises(self, InvalidRows, "index", index, Carpet, rows)
        assert_raises(self, InvalidRows, "index", 1, Carpet, ["a", "ab", "ab", "ab"])

    def test_as_many_letters_in_a_row_as_allowed(self):
        self.assertEqual(Carpet(["a" * 99 + "b"]).net, Net(100, 0, 1))
        assert_raises(self, InvalidRows, "index", 0, Carpet, ["a" * 101])
        assert_raises(self, InvalidRows, "index", 0, Carpet, ["a" * 101] * 3)
        assert_raises(self, InvalidRows, "index", 2, Carpet, ["a" * 100, "b" * 100, "a" * 101])

    def test_the_first_wrong_item(self):
        assert_raises(self, InvalidRows, "index", 1, Carpet, ["ab", "a", None, ""])
        assert_raises(self, InvalidRows, "index", 0, Carpet, [None, "ab", ""])
        assert_raises(self, InvalidRows, "index", 0, Carpet, ["", ""])
        assert_raises(self, InvalidRows, "index", 2, Carpet, ["ab", "ba", "A", "abc"])

    def test_as_many_letters_as_allowed(self):
        carpet = Carpet(["a" * 100] * 9 + ["a" * 99 + "b"])
        self.assertEqual((carpet.net, carpet[99, 9], carpet[98, 9]), (Net(100, 0, 10), "b", "a"))
        self.assertEqual(Carpet(["a" * 10] * 99 + ["a" * 9 + "b"], shift=3).net, Net(10, 3, 100))
        for width, height in ((100, 11), (91, 11), (11, 91), (77, 13), (13, 77), (100, 100)):
            assert_raises(self, LimitExceeded, "limit", 1000, Carpet, ["a" * width] * height)

    def test_shifts_that_are_no_integers(self):
        for value in NO_INTEGERS + [(1, 0)]:
            assert_raises(self, InvalidNumber, "value", value, Carpet, ["ab"], shift=value)

    def test_the_order_of_the_errors(self):
        assert_raises(self, InvalidRows, "index", None, Carpet, None, shift=None)
        assert_raises(self, InvalidRows, "index", 10, Carpet, ["a" * 100] * 10 + ["a"], shift="x")
        assert_raises(self, InvalidRows, "index", 50, Carpet, ["a" * 100] * 50 + ["a" * 99 + "A"])
        assert_raises(self, LimitExceeded, "limit", 1000, Carpet, ["a" * 100] * 11, shift=None)


class Nets(unittest.TestCase):
    def test_exactly_the_shifts_that_keep_the_colours(self):
        for rows, shift in all_blocks():
            carpet = Carpet(rows, shift=shift)
            block = Net(len(rows[0]), shift % len(rows[0]), len(rows))
            wanted = kept_shifts(block, lambda place: block_colour(rows, shift, place))
            self.assertTrue(block.is_within(carpet.net))
            self.assertEqual({place for place in block.cell() if place in carpet.net}, wanted, (rows, shift))

    def test_the_cell_of_a_greater_net(self):
        for size in (16, 36, 60, 72):
            for net in (Net(size, size // 2, 1), Net(2, 1, size // 2), Net(1, 0, size)):
                self.check_nets_above(net, nets_above(net))
        self.check_nets_above(Net(6, 0, 6), nets_above(Net(6, 0, 6)))
        self.check_nets_above(Net(12, 4, 8), nets_above(Net(12, 4, 8)))
        self.check_nets_above(Net(30, 0, 60), nets_above(Net(30, 0, 60))[::25])
        self.check_nets_above(Net(44, 22, 44), nets_above(Net(44, 22, 44))[::15])

    def check_nets_above(self, net, nets):
        for above in nets:
            text = "".join("b" if place in above else "a" for place in net.cell())
            carpet = Carpet.on(net, text)
            self.assertEqual((carpet.net, carpet.text), (above, "b" + "a" * (above.size - 1)))

    def test_examples(self):
        self.assertEqual(Carpet(["abab", "abab"]).net, Net(2, 0, 1))
        self.assertEqual(Carpet(["ab", "ba"]).net, Net(2, 1, 1))
        self.assertEqual(Carpet(["aaaa", "aaaa"], shift=3).net, Net(1, 0, 1))
        self.assertEqual(Carpet(["abc", "bca"]).net, Net(3, 0, 2))
        self.assertEqual(Carpet(["abc", "cab", "bca"]).net, Net(3, 1, 1))
        self.assertEqual(Carpet(["abcabd"], shift=3).net, Net(6, 3, 1))


class Properties(unittest.TestCase):
    def test_the_text_is_that_of_the_cell_in_place_order(self):
        for carpet in SAMPLES:
            self.assertEqual(carpet.text, "".join(carpet[place] for place in carpet.net.cell()))
        self.assertEqual(Carpet(["abab", "cdcd"]).text, "abcd")

    def test_the_rows_are_those_of_the_cell(self):
        for carpet in SAMPLES:
            a, _, c = carpet.net.numbers
            self.assertEqual(carpet.rows, ["".join(carpet[x, y] for x in range(a)) for y in range(c)])
        self.assertIsInstance(Carpet(("ab", "cd")).rows, list)

    def test_the_rows_are_a_new_list(self):
        carpet = Carpet(["ab", "cd"])
        carpet.rows.clear()
        self.assertEqual(carpet.rows, ["ab", "cd"])

    def test_the_rows_and_the_net_give_the_carpet_again(self):
        for carpet in SAMPLES:
            self.assertEqual(Carpet(carpet.rows, shift=carpet.net.numbers[1]), carpet)

    def test_the_colours_in_ascending_order(self):
        self.assertEqual(Carpet(["zcab", "ccaz"]).colours, "abcz")
        self.assertEqual(Carpet(["bb"]).colours, "b")
        self.assertEqual(Carpet([LETTERS[::-1]]).colours, LETTERS)
        for carpet in SAMPLES:
            self.assertEqual(carpet.colours, "".join(letter for letter in LETTERS if letter in carpet.text))

    def test_the_length_is_the_size_of_the_net(self):
        for carpet in SAMPLES:
            self.assertEqual(len(carpet), carpet.net.size)
        self.assertEqual(len(Carpet(["abab", "abab"])), 2)
        self.assertEqual(len(marks(Net(40, 7, 50))), 2000)

    def test_repr(self):
        self.assertEqual(repr(Carpet(["ab", "ba"])), "Carpet(['ab'], shift=1)")
        self.assertEqual(repr(Carpet(["ab"], shift=1)), "Carpet(['ab'], shift=1)")
        self.assertEqual(repr(Carpet(("aa", "aa"))), "Carpet(['a'], shift=0)")
        self.assertEqual(repr(Carpet(["abc", "abd"], shift=-1)), "Carpet(['abc', 'abd'], shift=2)")
        for carpet in SAMPLES:
            self.assertEqual(eval(repr(carpet)), carpet)


class Comparing(unittest.TestCase):
    def test_equal_exactly_if_all_colours_are(self):
        blocks = [(rows, shift) for rows, shift in all_blocks() if len(rows) * len(rows[0]) <= 4 and shift in (-1, 0)]
        # Nets of 4 places at most are kept by multiples of 12 steps, so that this window meets all places.
        window = list(itertools.product(range(12), repeat=2))
        seen = [(Carpet(rows, shift=shift), [block_colour(rows, shift, place) for place in window])
                for rows, shift in blocks]
        for one, wanted in seen:
            for other, found in seen:
                self.assertIs(one == other, wanted == found)
                self.assertIs(one != other, wanted != found)

    def test_equal_exactly_if_nets_and_texts_are(self):
        for one in SAMPLES:
            for other in SAMPLES:
                self.assertIs(one == other, (one.net, one.text) == (other.net, other.text))
        self.assertNotEqual(Carpet(["ab"]), Carpet(["a", "b"]))
        self.assertNotEqual(Carpet(["abc"]), Carpet(["abc"], shift=1))
        self.assertNotEqual(Carpet(["ab"]), Carpet(["ba"]))

    def test_values_of_other_kinds(self):
        carpet = Carpet(["a"])
        for value in NO_PLACES + ["a", ["a"], Net.whole(), Motion("none"), Carpet, object(), unittest.mock.ANY]:
            self.assertIs(carpet == value, False)
            self.assertIs(carpet != value, True)


class Brackets(unittest.TestCase):
    def test_other_values(self):
        for value in NO_PLACES + [slice(1, 2), (slice(1, 2), 0), ..., (0, ...)]:
            assert_raises(self, InvalidPlace, "value", value, lambda: Carpet(["ab"])[value])

    def test_a_tuple_without_the_sign_between(self):
        place = (3, 4)
        self.assertEqual(Carpet(["ab"], shift=1)[place], "b")

    def test_there_is_no_first_place(self):
        with self.assertRaises(TypeError):
            iter(Carpet(["ab"]))


class Moving(unittest.TestCase):
    def test_each_colour_is_carried_by_the_shift(self):
        for carpet in SAMPLES:
            for dx, dy in ((0, 0), (1, 0), (0, 1), (-1, 0), (0, -1), (2, 3), (-5, 4), (3, -7), (BIG, -BIGGER)):
                there, back = carpet + (dx, dy), carpet - (dx, dy)
                for x, y in WINDOW[::3] + FAR:
                    self.assertEqual(there[x + dx, y + dy], carpet[x, y])
                    self.assertEqual(back[x - dx, y - dy], carpet[x, y])
                self.assertEqual((there.net, back.net), (carpet.net, carpet.net))
                self.assertEqual((there - (dx, dy), back + (dx, dy)), (carpet, carpet))

    def test_exactly_the_shifts_of_the_net_keep_a_carpet(self):
        for carpet in SAMPLES:
            for shift in itertools.product(range(-4, 5), repeat=2):
                self.assertIs(carpet + shift == carpet, shift in carpet.net)

    def test_all_shifts_of_all_small_nets(self):
        for size in range(1, 7):
            for net in all_nets(size):
                for text in ("abcdef"[:size], "aabbab"[:size]):
                    for dx, dy in net.cell():
                        image = Carpet.on(net, text) + (dx, dy)
                        for x, y in net.cell():
                            self.assertEqual(image[x, y], cell_colour(net, text, (x - dx, y - dy)))

    def test_each_colour_is_carried_by_the_motion(self):
        for kind in Motion.KINDS:
            for shift in ((0, 0), (2, -1), (BIG, -BIGGER)):
                motion = Motion(kind, shift)
                for carpet in SAMPLES:
                    image = carpet * motion
                    for place in WINDOW[::3] + FAR:
                        self.assertEqual(image[motion(place)], carpet[place])
                    self.assertEqual(image.net, carpet.net * motion)

    def test_motions_one_after_another(self):
        carpet = Carpet(["aab", "abc"], shift=1)
        motions = [Motion(kind, shift) for kind in Motion.KINDS for shift in ((0, 0), (1, 3))]
        for one, other in itertools.product(motions, repeat=2):
            self.assertEqual(carpet * one * other, carpet * (one * other))
        for motion in motions:
            self.assertEqual(carpet * motion * ~motion, carpet)

    def test_the_greatest_cells_are_moved(self):
        for net in (Net(2000, 3, 1), Net(1, 0, 2000), Net(40, 7, 50)):
            carpet = Carpet.on(net, "ba" + "c" * 1998)
            image = carpet * Motion("left", (5, -BIG))
            self.assertEqual(len(image), 2000)
            for place in ((0, 0), (1, 0), (2, 0), (-1, 0), (0, 1), (BIG, 17), basis(net)[1]):
                self.assertEqual(image[Motion("left", (5, -BIG))(place)], carpet[place])
                self.assertEqual((carpet + (BIG, 3))[place], carpet[place[0] - BIG, place[1] - 3])

    def test_is_kept_by(self):
        for carpet in SAMPLES:
            for kind in Motion.KINDS:
                for shift in itertools.product(range(3), repeat=2):
                    motion = Motion(kind, shift)
                    wanted = all(carpet[motion(place)] == carpet[place] for place in WINDOW)
                    self.assertIs(carpet.is_kept_by(motion), wanted)
        self.assertIs(Carpet(["ab"]).is_kept_by(Motion("none", (2 * BIG, BIGGER))), True)
        self.assertIs(Carpet(["ab"]).is_kept_by(Motion("none", (2 * BIG + 1, BIGGER))), False)

    def test_exchanged_colours_keep_the_net(self):
        for carpet in SAMPLES:
            other = Carpet.on(carpet.net, "".join(LETTERS[25 - LETTERS.index(letter)] for letter in carpet.text))
            self.assertEqual(other.net, carpet.net)


class OnNets(unittest.TestCase):
    def test_colours_and_nets_of_all_small_texts(self):
        for size in range(1, 7):
            for net in all_nets(size):
                for text in all_texts(size):
                    self.check(net, text, [(-1, -1), (2, 3), (-5, 7)])

    def check(self, net, text, places):
        carpet = Carpet.on(net, text)
        self.assertEqual("".join(carpet[place] for place in net.cell()), text)
        for place in places:
            self.assertEqual(carpet[place], cell_colour(net, text, place))
        wanted = kept_shifts(net, lambda place: cell_colour(net, text, place))
        self.assertEqual({place for place in net.cell() if place in carpet.net}, wanted)
        self.assertTrue(net.is_within(carpet.net))

    def test_far_places(self):
        text = "abcdefghijkl"
        for net in all_nets(12):
            carpet = Carpet.on(net, text)
            for place in FAR:
                self.assertEqual(carpet[place], cell_colour(net, text, place))

    def test_the_size_of_the_limit(self):
        for numbers in ((2000, 0, 1), (2000, 999, 1), (1, 0, 2000), (50, 49, 40)):
            net = Net(*numbers)
            carpet = Carpet.on(net, "a" * 1999 + "b")
            self.assertEqual((carpet.net, carpet.text), (net, "a" * 1999 + "b"))
        for numbers in ((2001, 0, 1), (1, 0, 2001), (3, 1, 667), (BIG, 5, BIGGER)):
            net = Net(*numbers)
            assert_raises(self, LimitExceeded, "limit", 2000, Carpet.on, net, "a" * 2001)

    def test_other_texts(self):
        texts = ["", "a", "aa", "aaaa", "aaB", "aa ", "aa\n", "\naa", "a.a", "aa\u00e9", "aa{", "aa`", b"aaa",
                 ["a", "a", "a"], ("a", "a", "a"), {"a": 1, "b": 1, "c": 1}]
        for value in texts + NO_INTEGERS:
            assert_raises(self, InvalidText, "value", value, Carpet.on, Net(3, 1, 1), value)

    def test_the_limit_comes_first(self):
        for value in ("a", None, "A" * 2001, Stubborn()):
            assert_raises(self, LimitExceeded, "limit", 2000, Carpet.on, Net(2001, 0, 1), value)

    def test_it_is_called_off_a_carpet_too(self):
        self.assertEqual(Carpet(["z"]).on(Net(2, 0, 1), "ab"), Carpet(["ab"]))


class Plain(unittest.TestCase):
    def test_all_colours(self):
        for letter in LETTERS:
            carpet = Carpet.plain(letter)
            self.assertEqual((carpet.net, carpet.text, carpet[BIG, -BIG]), (Net(1, 0, 1), letter, letter))

    def test_other_values(self):
        for value in NO_COLOURS:
            assert_raises(self, InvalidColour, "value", value, Carpet.plain, value)


class Interface(unittest.TestCase):
    def test_parameters(self):
        self.assertEqual(str(inspect.signature(Carpet)), "(rows, *, shift=0)")
        self.assertEqual(str(inspect.signature(Carpet.on)), "(net, text)")
        self.assertEqual(str(inspect.signature(Carpet.plain)), "(colour)")
        self.assertEqual(str(inspect.signature(Carpet.is_kept_by)), "(self, motion)")


if __name__ == "__main__":
    unittest.main()
