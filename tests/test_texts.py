import inspect
import itertools
import unittest

from carpets.carpets import Carpet
from carpets.errors import InvalidNumber, InvalidPlace, InvalidText
from carpets.motions import Motion
from carpets.nets import Net
from carpets.texts import (
    picture, read_carpet, read_motion, read_net, read_place, share_table, show_carpet, show_motion, show_net,
    show_place,
)
from models import BIG, BIGGER, FAR, SAMPLES, all_nets, marks, square
from odd_values import NO_INTEGERS, NO_PLACES, Stubborn, assert_raises

READERS = (read_place, read_net, read_motion, read_carpet)
MOST = 10 ** 60 - 1

NO_TEXTS = [
    None, True, False, 0, 7, 1.5, b"1,2", b"ab+0", (1, 2), [1, 2], ("1", "2"), ["ab"], {"1,2"}, {"ab": 0}, Net(1, 0, 1),
    Carpet(["a"]), Motion("none"), str, Stubborn(),
]

INTEGERS = ["0", "7", "-1", "10", "-900", str(BIG), str(-BIGGER), str(MOST), str(-MOST)]
NO_INTEGER_TEXTS = [
    "", "-", "--1", "-0", "00", "01", "-01", "+1", " 1", "1 ", "1\n", "1_0", "1.0", "1e3", "0x1", "1x", "a", "\u0661",
    "\u00b2", "\uff11", str(MOST + 1), str(-MOST - 1), "1" * 4001, "0" * 60, "- 1", "1-", "1,", ",1", "None",
]


class Examples(unittest.TestCase):
    def test_examples_of_the_document(self):
        carpet = read_carpet("aab/aab+1")
        self.assertEqual(
            repr((show_carpet(carpet), picture(carpet, (0, 0), 4, 3), share_table(carpet))),
            "('aab/aab+1', ['baab', 'aaba', 'aaba'], ['a      4  66', 'b      2  33'])",
        )

    def test_arguments_by_name(self):
        self.assertEqual(show_place(place=(1, 2)), "1,2")
        self.assertEqual(show_net(net=Net(3, 1, 2)), "[3 1 2]")
        self.assertEqual(show_motion(motion=Motion("left", (1, 2))), "left 1,2")
        self.assertEqual(show_carpet(carpet=Carpet(["ab"])), "ab+0")
        self.assertEqual(read_place(text="1,2"), (1, 2))
        self.assertEqual(read_net(text="[3 1 2]"), Net(3, 1, 2))
        self.assertEqual(read_motion(text="left 1,2"), Motion("left", (1, 2)))
        self.assertEqual(read_carpet(text="ab+1"), Carpet(["ab"], shift=1))
        self.assertEqual(picture(height=1, width=2, place=(1, 0), carpet=Carpet(["ab"])), ["ba"])
        self.assertEqual(share_table(carpet=Carpet(["a"])), ["a      1 100"])

    def test_parameters(self):
        for call, wanted in (
            (show_place, "(place)"), (show_net, "(net)"), (show_motion, "(motion)"), (show_carpet, "(carpet)"),
            (read_place, "(text)"), (read_net, "(text)"), (read_motion, "(text)"), (read_carpet, "(text)"),
            (picture, "(carpet, place, width, height)"), (share_table, "(carpet)"),
        ):
            self.assertEqual(str(inspect.signature(call)), wanted)
            self.assertEqual(call.__module__, "carpets.texts")


class AllReaders(unittest.TestCase):
    def test_values_that_are_no_texts(self):
        for value in NO_TEXTS:
            for read in READERS:
                assert_raises(self, InvalidText, "value", value, read, value)

    def test_texts_of_other_forms(self):
        texts = [
            "", " ", "\n", ",", "/", "+", "[]", "[", "]", "1", "1,2,3", "1;2", "(1,2)", "1, 2", " 1,2", "1,2 ", "1,2\n",
            "[1 0 1", "1 0 1]", "(1 0 1]", "[1 0 1)", "1[1 0 1]", "[1 0]", "[1 0 1 0]", "[1  0 1]", "[ 1 0 1]", "[1 0 1 ]", "[1,0,1]", "[1 0 1]\n",
            "(1 0 1)", "[[1 0 1]]", "none", "none ", "none1,2", "none  1,2", " none 1,2", "None 1,2", "turn 1,2",
            "none 1,2 ", "none 1, 2", "none 1", "none,1,2", "1,2 none", "none 1,2,3", "none (1,2)", "ab", "ab+", "+0",
            "ab+0+0", "ab/+0", "/ab+0", "ab//ab+0", "ab/a+0", "a/ab+0", "aB+0", "a b+0", "ab +0", "ab+ 0", "ab+0 ",
            "ab+0\n", "ab+2", "ab+-1", "ab-1", "ab+01", "ab+00", "ab++0", "a.+0", "ab,ab+0", "ab/ab", "ab/ba/+0", "%s",
            "x" * 20000, "1" * 20000, "a/" * 10000, "[" * 20000, "+" * 20000,
        ]
        for text in texts:
            for read in READERS:
                assert_raises(self, InvalidText, "value", text, read, text)

    def test_the_text_of_another_kind(self):
        texts = ["1,2", "[3 1 2]", "left 1,2", "ab/ab+1"]
        for text, read in itertools.product(texts, READERS):
            if texts.index(text) != READERS.index(read):
                assert_raises(self, InvalidText, "value", text, read, text)

    def test_numbers(self):
        for text in NO_INTEGER_TEXTS:
            for read, form in (
                (read_place, "{},2"), (read_place, "2,{}"), (read_net, "[{} 0 1]"), (read_net, "[9 {} 1]"),
                (read_net, "[9 0 {}]"), (read_motion, "swap {},2"), (read_motion, "swap 2,{}"),
                (read_carpet, "abc/bca+{}"),
            ):
                if (text, form) != (" 1", "swap {},2"):
                    whole = form.format(text)
                    assert_raises(self, InvalidText, "value", whole, read, whole)
        assert_raises(self, InvalidText, "value", "swap  1,2", read_motion, "swap  1,2")


class Places(unittest.TestCase):
    def test_show_and_read(self):
        for x, y in itertools.product(INTEGERS, repeat=2):
            place = (int(x), int(y))
            self.assertEqual(show_place(place), f"{x},{y}")
            self.assertEqual(read_place(f"{x},{y}"), place)
            self.assertIsInstance(read_place(f"{x},{y}"), tuple)

    def test_more_digits_are_shown_but_not_read(self):
        self.assertEqual(show_place((MOST + 1, -MOST - 1)), "1" + "0" * 60 + ",-1" + "0" * 60)
        text = show_place((MOST + 1, 0))
        assert_raises(self, InvalidText, "value", text, read_place, text)

    def test_other_values(self):
        for value in NO_PLACES:
            assert_raises(self, InvalidPlace, "value", value, show_place, value)


class Nets(unittest.TestCase):
    def test_show_and_read(self):
        nets = [net for size in range(1, 13) for net in all_nets(size)]
        for net in nets + [Net(BIG, 77, BIGGER), Net(MOST, MOST - 1, MOST), Net(1, 0, MOST)]:
            a, b, c = net.numbers
            self.assertEqual(show_net(net), f"[{a} {b} {c}]")
            self.assertEqual(read_net(show_net(net)), net)

    def test_numbers_that_are_no_net(self):
        for a, b, c in itertools.product(range(-2, 4), repeat=3):
            if not (a >= 1 and c >= 1 and 0 <= b < a):
                text = f"[{a} {b} {c}]"
                assert_raises(self, InvalidText, "value", text, read_net, text)


class Motions(unittest.TestCase):
    def test_show_and_read(self):
        for kind, shift in itertools.product(Motion.KINDS, FAR + [(0, 0), (-1, 2), (MOST, -MOST)]):
            motion = Motion(kind, shift)
            self.assertEqual(show_motion(motion), f"{kind} {shift[0]},{shift[1]}")
            self.assertEqual(read_motion(show_motion(motion)), motion)


class Carpets(unittest.TestCase):
    def test_show_and_read(self):
        for carpet in SAMPLES + [marks(Net(100, 99, 10)), marks(Net(10, 3, 100))]:
            shown = show_carpet(carpet)
            self.assertEqual(shown, "/".join(carpet.rows) + "+" + str(carpet.net.numbers[1]))
            self.assertEqual(read_carpet(shown), carpet)

    def test_examples(self):
        self.assertEqual(show_carpet(Carpet(["ab", "ba"])), "ab+1")
        self.assertEqual(show_carpet(Carpet(["a", "b", "c"])), "a/b/c+0")
        self.assertEqual(show_carpet(Carpet(["aab", "aab"], shift=-2)), "aab/aab+1")

    def test_any_rows_and_shifts(self):
        for rows in (["abab"], ["aa", "aa"], ["abc", "bca", "cab"], ["a"] * 100, ["ab" * 50]):
            for shift in range(len(rows[0])):
                self.assertEqual(read_carpet("/".join(rows) + f"+{shift}"), Carpet(rows, shift=shift))
            for shift in (-1, len(rows[0]), len(rows[0]) + 1, BIG):
                text = "/".join(rows) + f"+{shift}"
                assert_raises(self, InvalidText, "value", text, read_carpet, text)

    def test_the_limits_of_rows(self):
        self.assertEqual(read_carpet("a" * 99 + "b+5"), Carpet(["a" * 99 + "b"], shift=5))
        self.assertEqual(read_carpet("/".join(["a" * 10] * 99 + ["a" * 9 + "b"]) + "+9").net, Net(10, 9, 100))
        for rows in (["a" * 101], ["a"] * 101, ["a" * 91] * 11, ["a" * 100] * 100):
            text = "/".join(rows) + "+0"
            assert_raises(self, InvalidText, "value", text, read_carpet, text)

    def test_cells_that_no_carpet_takes_as_rows_are_shown(self):
        for net in (Net(2000, 3, 1), Net(1, 0, 2000), Net(40, 7, 50), Net(101, 0, 1)):
            text = show_carpet(marks(net))
            self.assertEqual(len(text), net.size + net.numbers[2] - 1 + 1 + len(str(net.numbers[1])))
            assert_raises(self, InvalidText, "value", text, read_carpet, text)


class Pictures(unittest.TestCase):
    def wanted(self, carpet, place, width, height):
        x, y = place
        return ["".join(carpet[x + i, y + j] for i in range(width)) for j in reversed(range(height))]

    def test_each_place(self):
        for carpet in SAMPLES:
            for width, height in ((1, 1), (3, 1), (1, 4), (5, 7)):
                for place in square(1) + FAR:
                    found = picture(carpet, place, width, height)
                    self.assertEqual(found, self.wanted(carpet, place, width, height))
                    self.assertIsInstance(found, list)

    def test_the_highest_row_first(self):
        self.assertEqual(picture(Carpet(["ab", "cd", "ef"]), (0, 0), 2, 3), ["ef", "cd", "ab"])
        self.assertEqual(picture(Carpet(["ab", "cd", "ef"]), (1, 1), 3, 2), ["fef", "dcd"])

    def test_the_limit(self):
        carpet = marks(Net(7, 3, 5))
        self.assertEqual(picture(carpet, (BIG, -BIGGER), 100, 100), self.wanted(carpet, (BIG, -BIGGER), 100, 100))
        for value in NO_INTEGERS + [0, -1, 101, BIG, (1, 1)]:
            assert_raises(self, InvalidNumber, "value", value, picture, carpet, (0, 0), value, 1)
            assert_raises(self, InvalidNumber, "value", value, picture, carpet, (0, 0), 1, value)

    def test_other_places(self):
        for value in NO_PLACES:
            assert_raises(self, InvalidPlace, "value", value, picture, Carpet(["ab"]), value, 1, 1)

    def test_the_order_of_the_errors(self):
        assert_raises(self, InvalidPlace, "value", None, picture, Carpet(["ab"]), None, 0, 101)
        assert_raises(self, InvalidNumber, "value", 0, picture, Carpet(["ab"]), (0, 0), 0, 101)
        assert_raises(self, InvalidNumber, "value", 101, picture, Carpet(["ab"]), (0, 0), 101, None)

    def test_the_list_is_new(self):
        carpet = Carpet(["ab"])
        picture(carpet, (0, 0), 2, 1).clear()
        self.assertEqual(picture(carpet, (0, 0), 2, 1), ["ab"])


class Tables(unittest.TestCase):
    def test_columns(self):
        self.assertEqual(share_table(Carpet(["a"])), ["a      1 100"])
        self.assertEqual(share_table(Carpet(["cab"])), ["a      1  33", "b      1  33", "c      1  33"])
        self.assertEqual(share_table(marks(Net(2000, 3, 1))), ["a   1999  99", "b      1   0"])
        self.assertEqual(share_table(Carpet(["ab" * 5 + "c" * 90])), ["a      5   5", "b      5   5", "c     90  90"])
        self.assertEqual(share_table(Carpet(["a" * 10 + "b"])), ["a     10  90", "b      1   9"])

    def test_all_colours_in_ascending_order(self):
        for carpet in SAMPLES:
            table = share_table(carpet)
            self.assertEqual("".join(line[0] for line in table), carpet.colours)
            for line in table:
                number = carpet.text.count(line[0])
                self.assertEqual(line, line[0] + " " + str(number).rjust(6) + " " +
                                 str(number * 100 // len(carpet)).rjust(3))

    def test_the_list_is_new(self):
        carpet = Carpet(["a"])
        share_table(carpet).clear()
        self.assertEqual(share_table(carpet), ["a      1 100"])


if __name__ == "__main__":
    unittest.main()
