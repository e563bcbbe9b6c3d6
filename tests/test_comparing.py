import inspect
import itertools
import unittest

from carpets.carpets import Carpet
from carpets.comparing import difference, is_difference, shift_between
from carpets.nets import Net
from models import BIG, BIGGER, FAR, SAMPLES, WINDOW, all_nets, all_texts, basis, block_colour, marks
from odd_values import NO_PLACES

SMALL = [Carpet.on(net, text) for size in range(1, 5) for net in all_nets(size) for text in all_texts(size)]


class Examples(unittest.TestCase):
    def test_example_of_the_document(self):
        one, other = Carpet(["aab"]), Carpet(["aba"])
        upright = Carpet(["a", "a", "b"])
        self.assertEqual(
            repr((difference(one, one + (3, 7)), shift_between(one, other), shift_between(one, upright))),
            "(None, (2, 0), None)",
        )

    def test_arguments_by_name(self):
        one, other = Carpet(["aab"]), Carpet(["aba"])
        self.assertIsNone(difference(other=one, one=one))
        self.assertIs(is_difference(value=(1, 5), other=other, one=one), True)
        self.assertEqual(shift_between(other=other, one=one), (2, 0))

    def test_parameters(self):
        self.assertEqual(str(inspect.signature(difference)), "(one, other)")
        self.assertEqual(str(inspect.signature(is_difference)), "(one, other, value)")
        self.assertEqual(str(inspect.signature(shift_between)), "(one, other)")


class Differences(unittest.TestCase):
    def check(self, one, other):
        place = difference(one, other)
        if one == other:
            self.assertIsNone(place)
        else:
            self.assertIsInstance(place, tuple)
            self.assertNotEqual(one[place], other[place])
            self.assertIs(is_difference(one, other, place), True)

    def test_small_carpets(self):
        for one, other in itertools.product(SMALL, repeat=2):
            self.check(one, other)

    def test_samples(self):
        for one, other in itertools.product(SAMPLES, repeat=2):
            self.check(one, other)
            self.check(one, other + (1, 2))

    def test_an_equal_carpet_that_is_another_object(self):
        self.assertIsNone(difference(Carpet(["ab", "ba"]), Carpet(["ab"], shift=1)))
        self.assertIsNone(difference(Carpet(["aab"]), Carpet(["aab"]) + (3 * BIG, BIGGER)))

    def test_carpets_that_differ_at_one_place_of_a_great_cell(self):
        for net in (Net(2000, 7, 1), Net(1, 0, 2000), Net(40, 3, 50)):
            for index in (0, 1, 777, 1998):
                text = "a" * index + "b" + "a" * (1998 - index) + "c"
                self.check(Carpet.on(net, text), Carpet.on(net, "a" * 1999 + "c"))
                self.check(Carpet.on(net, "a" * 1999 + "c"), Carpet.on(net, text))

    def test_nets_with_a_small_common_part(self):
        # The common part of two of these nets has millions of places, and most places are equal.
        nets = [Net(2000, 7, 1), Net(1999, 1, 1), Net(1, 0, 1999), Net(1, 0, 1997), Net(43, 5, 41), Net(40, 0, 50)]
        for one, other in itertools.product([marks(net) for net in nets] + [Carpet(["a"]), Carpet(["b"])], repeat=2):
            self.check(one, other)

    def test_one_net_within_the_other(self):
        fine, coarse = Net(30, 10, 60), Net(10, 0, 30)
        self.check(marks(fine), marks(coarse))
        self.check(marks(coarse), marks(fine))


class Whether(unittest.TestCase):
    def test_all_places_of_a_window(self):
        for one, other in itertools.product(SAMPLES, repeat=2):
            for x, y in WINDOW[::5] + FAR:
                wanted = one[x, y] != other[x, y]
                self.assertIs(is_difference(one, other, (x, y)), wanted)

    def test_places_of_thirty_digits(self):
        one, other = Carpet(["aabc"], shift=1), Carpet(["aab", "abc"], shift=-BIG)
        for place in FAR:
            wanted = block_colour(["aabc"], 1, place) != block_colour(["aab", "abc"], -BIG, place)
            self.assertIs(is_difference(one, other, place), wanted)

    def test_any_other_value(self):
        for value in NO_PLACES:
            self.assertIs(is_difference(Carpet(["a"]), Carpet(["b"]), value), False)
            self.assertIs(is_difference(Carpet(["a"]), Carpet(["a"]), value), False)


class Shifts(unittest.TestCase):
    def wanted(self, one, other):
        for shift in other.net.cell():
            if one + shift == other:
                return shift
        return None

    def test_small_carpets(self):
        for one, other in itertools.product(SMALL, repeat=2):
            self.assertEqual(shift_between(one, other), self.wanted(one, other))

    def test_samples(self):
        for one, other in itertools.product(SAMPLES, repeat=2):
            self.assertEqual(shift_between(one, other), self.wanted(one, other))
            for shift in ((1, 0), (0, 1), (-5, 3), (BIG, -BIGGER)):
                moved = one + shift
                self.assertEqual(shift_between(one, moved), moved.net.reduced(shift))

    def test_each_shift_of_the_cell(self):
        for net in all_nets(12) + [Net(6, 4, 5), Net(5, 3, 7)]:
            carpet = marks(net)
            for shift in net.cell():
                self.assertEqual(shift_between(carpet, carpet + shift), shift)

    def test_the_shift_stands_in_the_cell(self):
        carpet = Carpet(["aab", "abb"], shift=1)
        found = shift_between(carpet, carpet - (BIG, BIG))
        self.assertIn(found, list(carpet.net.cell()))
        self.assertEqual(carpet + found, carpet - (BIG, BIG))

    def test_different_nets_and_different_colours(self):
        self.assertIsNone(shift_between(Carpet(["ab"]), Carpet(["a", "b"])))
        self.assertIsNone(shift_between(Carpet(["ab"]), Carpet(["ab"], shift=1)))
        self.assertIsNone(shift_between(Carpet(["aab"]), Carpet(["abb"])))
        self.assertIsNone(shift_between(Carpet(["aab"]), Carpet(["aac"])))
        self.assertIsNone(shift_between(Carpet(["a"]), Carpet(["b"])))

    def test_mirror_images(self):
        self.assertIsNone(shift_between(Carpet(["aabbab"]), Carpet(["babbaa"])))
        self.assertEqual(shift_between(Carpet(["abc"]), Carpet(["abc"])), (0, 0))

    def test_great_cells(self):
        for net in (Net(2000, 7, 1), Net(1, 0, 2000), Net(40, 3, 50)):
            carpet = marks(net)
            a, _, c = net.numbers
            for shift in ((a - 1, c - 1), (a // 2, c // 2), (0, 0)):
                self.assertEqual(shift_between(carpet, carpet + shift), shift)
            self.assertIsNone(shift_between(carpet, marks(net, mark="c")))
            first, second = basis(net)
            self.assertEqual(shift_between(carpet, carpet + first - second), (0, 0))


if __name__ == "__main__":
    unittest.main()
