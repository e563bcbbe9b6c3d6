import inspect
import itertools
import unittest
import unittest.mock

from carpets.carpets import Carpet
from carpets.errors import InvalidNumber, InvalidPlace, InvalidRows, LimitExceeded
from carpets.nets import Net
from carpets.patches import Patch, frequency, next_occurrence, occurrences, telling_size, windows
from carpets.weaving import recoloured
from models import (
    BIG, BIGGER, EXCHANGE, FAR, MOTIONS, SAMPLES, all_nets, all_texts, exchanged, fits, marks, share_of,
)
from odd_values import NO_INTEGERS, NO_PLACES, Stubborn, assert_raises

SMALL = [Carpet.on(net, text) for size in range(1, 5) for net in all_nets(size) for text in all_texts(size)]

PATCHES = [Patch(rows) for rows in (
    ["a"], ["b"], ["."], ["z"], ["ab"], ["a.b"], [".a"], ["a."], ["a", "b"], ["ab", ".a"], ["b.", "a."], ["..", ".."],
    ["aab", "a.."], ["c", ".", "a"], ["abcabcabc"], ["a..........b"], ["a", ".", ".", ".", ".", ".", "."],
    ["ab.ab", "ab.ab", ".....", "ba.ba"],
)]


class Examples(unittest.TestCase):
    def test_example_of_the_document(self):
        carpet = Carpet(["aab", "abb"])
        self.assertEqual(
            repr((Patch([".b", "ab"]) in carpet, next_occurrence(carpet, Patch(["b", "b"]), (10 ** 30, 5)),
                  windows(carpet, 2, 1)[0], telling_size(carpet))),
            "(True, (1000000000000000000000000000001, 5), (('aa',), 1), 3)",
        )

    def test_arguments_by_name(self):
        carpet, patch = Carpet(["aab"]), Patch(rows=["a"])
        self.assertEqual(occurrences(patch=patch, carpet=carpet), [(0, 0), (1, 0)])
        self.assertEqual(next_occurrence(place=(2, 7), patch=patch, carpet=carpet), (3, 7))
        self.assertEqual(frequency(patch=patch, carpet=carpet), (2, 3))
        self.assertEqual(windows(height=1, width=1, carpet=carpet), [(("a",), 2), (("b",), 1)])
        self.assertEqual(telling_size(carpet=carpet), 2)

    def test_parameters(self):
        for call, wanted in (
            (Patch, "(rows)"), (occurrences, "(carpet, patch)"), (next_occurrence, "(carpet, patch, place)"),
            (frequency, "(carpet, patch)"), (windows, "(carpet, width, height)"), (telling_size, "(carpet)"),
        ):
            self.assertEqual(str(inspect.signature(call)), wanted)
            self.assertEqual(call.__module__, "carpets.patches")

    def test_the_interface_stands_in_the_class(self):
        for name in ("rows", "width", "height"):
            self.assertIsInstance(Patch.__dict__[name], property)
        for name in ("__init__", "__eq__", "__repr__"):
            self.assertIn(name, Patch.__dict__)
        self.assertIn("__contains__", Carpet.__dict__)


class Patches(unittest.TestCase):
    def test_properties(self):
        for rows in (["a."], ["abc", ".z.", "..."], ["."], ["ab"] * 50, ("a", "b")):
            patch = Patch(rows)
            self.assertEqual((patch.rows, patch.width, patch.height), (list(rows), len(rows[0]), len(rows)))
            self.assertIsInstance(patch.rows, list)

    def test_the_rows_are_copied_and_not_changed(self):
        rows = ["a.", ".b"]
        patch = Patch(rows)
        self.assertEqual(rows, ["a.", ".b"])
        rows[0] = "zz"
        rows.append("zz")
        self.assertEqual((patch.rows, patch.height), (["a.", ".b"], 2))
        patch.rows.clear()
        self.assertEqual(patch.rows, ["a.", ".b"])

    def test_patches_never_change(self):
        patch = Patch(["a."])
        for name in ("rows", "width", "height"):
            with self.assertRaises(AttributeError):
                setattr(patch, name, 1)
        patch in Carpet(["ab"]), occurrences(Carpet(["ab"]), patch)
        self.assertEqual(repr(patch), "Patch(['a.'])")

    def test_repr(self):
        self.assertEqual(repr(Patch(["a."])), "Patch(['a.'])")
        self.assertEqual(repr(Patch(("a.", ".z"))), "Patch(['a.', '.z'])")
        for patch in PATCHES:
            self.assertEqual(eval(repr(patch)), patch)

    def test_equal_exactly_with_the_same_rows(self):
        for i, one in enumerate(PATCHES):
            for j, other in enumerate(PATCHES):
                again = Patch(tuple(other.rows))
                self.assertIs(one == again, i == j)
                self.assertIs(one != again, i != j)

    def test_values_of_other_kinds(self):
        patch = Patch(["a"])
        for value in NO_PLACES + ["a", ["a"], ("a",), Carpet(["a"]), Net.whole(), Patch, unittest.mock.ANY]:
            self.assertIs(patch == value, False)
            self.assertIs(patch != value, True)

    def test_rows_that_are_no_list_or_tuple(self):
        values = [
            None, True, 0, 7, 1.5, "ab", b"ab", {"ab"}, {"ab": 1}, iter(["ab"]), range(2), Carpet(["a"]), Stubborn(),
        ]
        for value in values:
            assert_raises(self, InvalidRows, "index", None, Patch, value)

    def test_the_number_of_the_rows(self):
        for rows in ([], (), ["a"] * 51, ("a",) * 51, [""] * 100, [Stubborn()] * 51):
            assert_raises(self, InvalidRows, "index", None, Patch, rows)
        self.assertEqual(Patch(["."] * 50).height, 50)

    def test_the_length_of_the_rows(self):
        self.assertEqual(Patch(["." * 50] * 50).width, 50)
        assert_raises(self, InvalidRows, "index", 0, Patch, ["a" * 51])
        assert_raises(self, InvalidRows, "index", 0, Patch, ["a" * 100] * 3)
        assert_raises(self, InvalidRows, "index", 2, Patch, ["a" * 50, "." * 50, "a" * 51])

    def test_items_that_are_no_texts_of_letters_and_dots(self):
        values = [
            None, True, 0, 1.5, b"ab", ["a", "b"], ("a", "b"), "", "aB", "a ", " .", "a1", "a,", "a\n", "a/", "a-",
            "a`", "a{", "a\u00e9", "\u2024a", "a\u0430", Stubborn(),
        ]
        for value in values + ["a", "abc", "..."]:
            for index in range(1, 4):
                rows = ["a."] * 4
                rows[index] = value
                assert_raises(self, InvalidRows, "index", index, Patch, rows)
                assert_raises(self, InvalidRows, "index", index, Patch, tuple(rows))
        for value in values:
            assert_raises(self, InvalidRows, "index", 0, Patch, [value, "a."])

    def test_the_first_wrong_item(self):
        assert_raises(self, InvalidRows, "index", 1, Patch, ["ab", "a", None, ""])
        assert_raises(self, InvalidRows, "index", 0, Patch, ["", ""])


class Occurrences(unittest.TestCase):
    def wanted(self, carpet, patch):
        return [place for place in carpet.net.cell() if fits(carpet, patch.rows, place)]

    def check(self, carpet, patch):
        wanted = self.wanted(carpet, patch)
        found = occurrences(carpet, patch)
        self.assertEqual(found, wanted)
        self.assertIs(patch in carpet, len(wanted) > 0)
        self.assertIs(patch not in carpet, len(wanted) == 0)
        self.assertEqual(frequency(carpet, patch), share_of(len(wanted), len(carpet)))

    def test_sign_by_sign(self):
        for carpet, patch in itertools.product(SAMPLES, PATCHES):
            self.check(carpet, patch)

    def test_small_carpets(self):
        patches = [Patch([text[:2], text[2:]]) for text in all_texts(4, "ab.")]
        for carpet, patch in itertools.product(SMALL[::5], patches):
            self.check(carpet, patch)

    def test_row_0_is_the_lowest_one(self):
        carpet = Carpet(["ab", "cd"])
        self.assertEqual(occurrences(carpet, Patch(["ab", "cd"])), [(0, 0)])
        self.assertEqual(occurrences(carpet, Patch(["cd", "ab"])), [(0, 1)])
        self.assertEqual(occurrences(Carpet(["ab", "cd", "ef"]), Patch(["cd", "ab"])), [])

    def test_patches_greater_than_the_cell(self):
        carpet = Carpet(["abc"], shift=1)
        rows = ["".join(carpet[x, y] for x in range(2, 52)) for y in range(-3, 47)]
        self.check(carpet, Patch(rows))
        self.assertEqual(occurrences(carpet, Patch(rows)), [carpet.net.reduced((2, -3))])
        rows[49] = "a" * 50
        self.assertEqual(occurrences(carpet, Patch(rows)), [])

    def test_dots_only(self):
        for carpet in SAMPLES:
            for rows in (["."], ["." * 50] * 50):
                self.assertEqual(occurrences(carpet, Patch(rows)), list(carpet.net.cell()))
                self.assertEqual(frequency(carpet, Patch(rows)), (1, 1))

    def test_the_greatest_cells(self):
        for net in (Net(2000, 3, 1), Net(1, 0, 2000), Net(40, 7, 50)):
            carpet = marks(net)
            self.assertEqual(occurrences(carpet, Patch(["b"])), [(0, 0)])
            self.assertEqual(occurrences(carpet, Patch(["." * 50] * 49 + ["." * 49 + "b"])), [net.reduced((-49, -49))])
            self.assertEqual(frequency(carpet, Patch(["b"])), (1, 2000))
            self.assertEqual(frequency(carpet, Patch(["z"])), (0, 1))
        self.assertEqual(frequency(marks(Net(40, 7, 50)), Patch(["a" * 50])), (49, 50))
        self.assertEqual(frequency(marks(Net(40, 7, 50)), Patch(["a.." * 16 + "a."] * 48)), self.recount())

    def recount(self):
        """The share of the places at which no mark stands under a letter of the patch of the test above."""
        net = Net(40, 7, 50)
        covered = {net.reduced((-i, -j)) for i in range(0, 50, 3) for j in range(48)}
        return share_of(2000 - len(covered), 2000)

    def test_the_list_is_new(self):
        carpet, patch = Carpet(["aab"]), Patch(["a"])
        occurrences(carpet, patch).clear()
        self.assertEqual(occurrences(carpet, patch), [(0, 0), (1, 0)])


class Next(unittest.TestCase):
    def test_one_place_after_another(self):
        for carpet, patch in itertools.product(SAMPLES, PATCHES):
            for x, y in itertools.product(range(-3, 4), repeat=2):
                wanted = [(x + k, y) for k in range(len(carpet)) if fits(carpet, patch.rows, (x + k, y))]
                self.assertEqual(next_occurrence(carpet, patch, (x, y)), wanted[0] if wanted else None)

    def test_far_places(self):
        for carpet, patch in itertools.product(SAMPLES, PATCHES[:10]):
            for x, y in FAR:
                wanted = [(x + k, y) for k in range(len(carpet)) if fits(carpet, patch.rows, (x + k, y))]
                self.assertEqual(next_occurrence(carpet, patch, (x, y)), wanted[0] if wanted else None)

    def test_a_row_without_it(self):
        carpet = Carpet(["ab", "ac"])
        self.assertIsNone(next_occurrence(carpet, Patch(["c"]), (0, 0)))
        self.assertEqual(next_occurrence(carpet, Patch(["c"]), (0, 1)), (1, 1))
        self.assertIsNone(next_occurrence(carpet, Patch(["z"]), (0, 1)))

    def test_the_place_itself(self):
        self.assertEqual(next_occurrence(Carpet(["ab"]), Patch(["b"]), (BIG * 2 + 1, BIGGER)), (BIG * 2 + 1, BIGGER))

    def test_the_greatest_step(self):
        carpet = marks(Net(2000, 1, 1))
        self.assertEqual(next_occurrence(carpet, Patch(["b"]), (1, 0)), (2000, 0))
        self.assertEqual(next_occurrence(carpet, Patch([".b"]), (0, 0)), (1999, 0))

    def test_other_values(self):
        for value in NO_PLACES:
            assert_raises(self, InvalidPlace, "value", value, next_occurrence, Carpet(["ab"]), Patch(["a"]), value)
            assert_raises(self, InvalidPlace, "value", value, next_occurrence, Carpet(["ab"]), Patch(["z"]), value)


class Windows(unittest.TestCase):
    def wanted(self, carpet, width, height):
        numbers = {}
        for x, y in carpet.net.cell():
            rows = tuple("".join(carpet[x + i, y + j] for i in range(width)) for j in range(height))
            numbers[rows] = numbers.get(rows, 0) + 1
        return sorted(numbers.items())

    def test_all_windows_of_some_sizes(self):
        for carpet in SAMPLES:
            for width, height in ((1, 1), (2, 1), (1, 2), (2, 2), (3, 2), (2, 3), (7, 1), (1, 7), (9, 8)):
                self.assertEqual(windows(carpet, width, height), self.wanted(carpet, width, height))

    def test_great_windows(self):
        carpet = Carpet(["aab"], shift=1)
        for width, height in ((50, 50), (50, 1), (1, 50)):
            self.assertEqual(windows(carpet, width, height), self.wanted(carpet, width, height))
        self.assertEqual([number for _, number in windows(marks(Net(40, 7, 50)), 50, 50)], [1] * 2000)

    def test_the_kinds_of_the_values(self):
        found = windows(Carpet(["aab"]), 2, 2)
        self.assertEqual(found, [(("aa", "aa"), 1), (("ab", "ab"), 1), (("ba", "ba"), 1)])
        self.assertIsInstance(found, list)
        self.assertTrue(all(isinstance(one, tuple) and isinstance(one[0], tuple) for one in found))

    def test_ordered_by_the_tuples_of_rows(self):
        self.assertEqual(windows(Carpet(["ba", "ac"]), 1, 2), [
            (("a", "b"), 1), (("a", "c"), 1), (("b", "a"), 1), (("c", "a"), 1),
        ])

    def test_each_window_fits_as_a_patch(self):
        for carpet in SAMPLES:
            for rows, number in windows(carpet, 2, 3):
                self.assertEqual(len(occurrences(carpet, Patch(rows))), number)

    def test_the_numbers_make_the_size_of_the_cell(self):
        for carpet in SAMPLES + [marks(Net(2000, 7, 1))]:
            self.assertEqual(sum(number for _, number in windows(carpet, 3, 4)), len(carpet))

    def test_the_list_is_new(self):
        carpet = Carpet(["ab"])
        windows(carpet, 1, 1).clear()
        self.assertEqual(windows(carpet, 1, 1), [(("a",), 1), (("b",), 1)])

    def test_other_sizes(self):
        for value in NO_INTEGERS + [0, -1, 51, BIG, -BIG, (1, 1)]:
            assert_raises(self, InvalidNumber, "value", value, windows, Carpet(["ab"]), value, 1)
            assert_raises(self, InvalidNumber, "value", value, windows, Carpet(["ab"]), 1, value)

    def test_the_order_of_the_errors(self):
        assert_raises(self, InvalidNumber, "value", 0, windows, Carpet(["ab"]), 0, 51)
        assert_raises(self, InvalidNumber, "value", 51, windows, Carpet(["ab"]), 51, None)


class Telling(unittest.TestCase):
    def wanted(self, carpet):
        """The least size, by comparing the windows of all sizes in turn."""
        size = 1
        while True:
            found = {
                tuple(carpet[x + i, y + j] for j in range(size) for i in range(size)) for x, y in carpet.net.cell()
            }
            if len(found) == len(carpet):
                return size
            size += 1

    def test_one_size_after_another(self):
        for carpet in SAMPLES + SMALL + [Carpet(["aaaaab"]), Carpet(["aababb", "abaaab"], shift=2)]:
            self.assertEqual(telling_size(carpet), self.wanted(carpet))

    def test_marks(self):
        for net in all_nets(12) + [Net(7, 3, 5), Net(3, 1, 11)]:
            self.assertEqual(telling_size(marks(net)), self.wanted(marks(net)))

    def test_one_colour(self):
        self.assertEqual(telling_size(Carpet(["k"])), 1)

    def test_all_colours_differ(self):
        self.assertEqual(telling_size(Carpet(["abcdefghijklm", "nopqrstuvwxyz"])), 1)

    def test_sizes_greater_than_50(self):
        # The windows at the places 1 and 2 of such a row differ only if the first one meets the mark again.
        for size in (2, 51, 52, 100, 399, 400):
            self.assertEqual(telling_size(marks(Net(size, 0, 1))), size - 1)
            self.assertEqual(telling_size(marks(Net(1, 0, size))), size - 1)

    def test_the_limit(self):
        self.assertEqual(telling_size(marks(Net(20, 0, 20))), 20)
        self.assertEqual(telling_size(marks(Net(400, 20, 1))), 20)
        for net in (Net(401, 0, 1), Net(1, 0, 401), Net(3, 1, 134), Net(2000, 0, 1)):
            assert_raises(self, LimitExceeded, "limit", 400, telling_size, marks(net))


class Changes(unittest.TestCase):
    def test_moved_carpets(self):
        for carpet in SAMPLES:
            for motion in MOTIONS:
                self.assertEqual(telling_size(carpet * motion), telling_size(carpet))
            for patch in PATCHES[:9]:
                moved = {carpet.net.reduced((x + 2, y - 5)) for x, y in occurrences(carpet, patch)}
                self.assertEqual(set(occurrences(carpet + (2, -5), patch)), moved)

    def test_exchanged_colours(self):
        for carpet in SAMPLES:
            other = recoloured(carpet, EXCHANGE)
            self.assertEqual(telling_size(other), telling_size(carpet))
            for patch in PATCHES:
                changed = Patch([exchanged(row) for row in patch.rows])
                if "z" not in "".join(patch.rows):
                    self.assertEqual(occurrences(other, changed), occurrences(carpet, patch))
            wanted = sorted((tuple(map(exchanged, rows)), number) for rows, number in windows(carpet, 2, 2))
            self.assertEqual(windows(other, 2, 2), wanted)


if __name__ == "__main__":
    unittest.main()
