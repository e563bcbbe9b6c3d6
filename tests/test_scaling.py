import inspect
import itertools
import unittest

from carpets.carpets import Carpet
from carpets.errors import InvalidNumber, InvalidPlace, LimitExceeded
from carpets.nets import Net
from carpets.scaling import enlarged, sampled, shares
from carpets.weaving import recoloured
from models import BIG, BIGGER, EXCHANGE, FAR, MOTIONS, SAMPLES, WINDOW, marks, share_of
from odd_values import NO_INTEGERS, NO_PLACES, Stubborn, assert_raises

NO_FACTORS = NO_INTEGERS + [0, -1, -BIG, (1, 1), [2]]


class Examples(unittest.TestCase):
    def test_examples_of_the_document(self):
        carpet = Carpet(["cdbdcb"])
        rows = enlarged(Carpet(["ab"], shift=1), 2, 1).rows
        self.assertEqual(
            repr((shares(carpet)["c"], sampled(carpet, 3, 7, start=(1, 0)), rows)),
            "((1, 3), Carpet(['dc'], shift=0), ['aabb'])",
        )

    def test_arguments_by_name(self):
        carpet = Carpet(["ab"], shift=1)
        self.assertEqual(enlarged(height=1, width=2, carpet=carpet), Carpet(["aabb"], shift=2))
        self.assertEqual(sampled(start=(1, 0), height=1, width=2, carpet=carpet), Carpet(["b", "a"]))
        self.assertEqual(shares(carpet=carpet), {"a": (1, 2), "b": (1, 2)})

    def test_parameters(self):
        self.assertEqual(str(inspect.signature(enlarged)), "(carpet, width, height)")
        self.assertEqual(str(inspect.signature(sampled)), "(carpet, width, height, *, start=(0, 0))")
        self.assertEqual(str(inspect.signature(shares)), "(carpet)")
        with self.assertRaises(TypeError):
            sampled(Carpet(["ab"]), 1, 1, (0, 0))

    def test_the_functions_stand_in_their_file(self):
        for call in (enlarged, sampled, shares):
            self.assertEqual(call.__module__, "carpets.scaling")


class Enlarging(unittest.TestCase):
    def test_each_place_becomes_a_block(self):
        for carpet in SAMPLES:
            for width, height in itertools.product((1, 2, 3, 5), repeat=2):
                great = enlarged(carpet, width, height)
                for x, y in WINDOW[::7] + FAR:
                    for i, j in itertools.product((0, width - 1), (0, height - 1)):
                        self.assertEqual(great[width * x + i, height * y + j], carpet[x, y])

    def test_blocks_of_one_place(self):
        for carpet in SAMPLES + [marks(Net(40, 7, 50))]:
            self.assertEqual(enlarged(carpet, 1, 1), carpet)

    def test_nets(self):
        self.assertEqual(enlarged(marks(Net(3, 1, 2)), 4, 5).net, Net(12, 4, 10))
        self.assertEqual(enlarged(Carpet(["ab"]), 1, 9).net, Net(2, 0, 1))
        self.assertEqual(enlarged(Carpet(["a", "b"]), 7, 2), Carpet(["a", "a", "b", "b"]))
        self.assertEqual(enlarged(Carpet(["c"]), 7, 8), Carpet(["c"]))

    def test_twice(self):
        for carpet in SAMPLES:
            self.assertEqual(enlarged(enlarged(carpet, 2, 1), 3, 2), enlarged(carpet, 6, 2))

    def test_the_limit(self):
        great = enlarged(marks(Net(5, 2, 4)), 10, 10)
        self.assertEqual((great.net, great[0, 0], great[9, 9], great[10, 0]), (Net(50, 20, 40), "b", "b", "a"))
        for carpet, width, height in (
            (Carpet(["a"]), 2000, 1), (Carpet(["a"]), 1, 2000), (Carpet(["ab"]), 1000, 1), (Carpet(["ab"]), 25, 40),
            (marks(Net(1, 0, 2000)), 1, 1),
        ):
            self.assertEqual(enlarged(carpet, width, height)[0, 0], carpet[0, 0])
        for carpet, width, height in (
            (Carpet(["a"]), 2001, 1), (Carpet(["a"]), 1, 2001), (Carpet(["aab"]), 667, 1), (Carpet(["aab"]), 23, 29),
            (marks(Net(1, 0, 2000)), 1, 2), (Carpet(["a"]), BIG, BIGGER), (Carpet(["ab"]), 1, BIG),
        ):
            assert_raises(self, LimitExceeded, "limit", 2000, enlarged, carpet, width, height)

    def test_other_factors(self):
        for value in NO_FACTORS:
            assert_raises(self, InvalidNumber, "value", value, enlarged, Carpet(["ab"]), value, 1)
            assert_raises(self, InvalidNumber, "value", value, enlarged, Carpet(["ab"]), 1, value)

    def test_the_order_of_the_errors(self):
        assert_raises(self, InvalidNumber, "value", 0, enlarged, Carpet(["ab"]), 0, -1)
        assert_raises(self, InvalidNumber, "value", 0, enlarged, Carpet(["ab"]), 0, BIG)
        assert_raises(self, InvalidNumber, "value", -1, enlarged, Carpet(["ab"]), BIG, -1)
        assert_raises(self, InvalidNumber, "value", None, enlarged, Carpet(["ab"]), None, Stubborn())


class Sampling(unittest.TestCase):
    def test_each_place(self):
        for carpet in SAMPLES:
            for width, height in itertools.product((1, 2, 3, 4, 6), repeat=2):
                for start in ((0, 0), (1, 0), (-2, 5)):
                    found = sampled(carpet, width, height, start=start)
                    for x, y in WINDOW[::11] + FAR[:3]:
                        self.assertEqual(found[x, y], carpet[start[0] + width * x, start[1] + height * y])

    def test_steps_and_starts_of_thirty_digits(self):
        for carpet in SAMPLES:
            for width, height in ((BIG, 1), (2, BIGGER), (BIGGER, BIG), (10 ** 30, 10 ** 29)):
                for start in ((0, 0), (BIG, -BIGGER)):
                    found = sampled(carpet, width, height, start=start)
                    for x, y in WINDOW[::17] + FAR[:3]:
                        self.assertEqual(found[x, y], carpet[start[0] + width * x, start[1] + height * y])

    def test_the_start_may_be_left_out(self):
        for carpet in SAMPLES:
            self.assertEqual(sampled(carpet, 2, 3), sampled(carpet, 2, 3, start=(0, 0)))

    def test_steps_of_one_place(self):
        for carpet in SAMPLES:
            self.assertEqual(sampled(carpet, 1, 1), carpet)
            for x, y in ((1, 0), (-3, 7), (BIG, BIGGER)):
                self.assertEqual(sampled(carpet, 1, 1, start=(x, y)), carpet - (x, y))

    def test_nets(self):
        self.assertEqual(sampled(marks(Net(6, 0, 10)), 2, 5).net, Net(3, 0, 2))
        self.assertEqual(sampled(marks(Net(5, 0, 7)), 2, 3).net, Net(5, 0, 7))
        self.assertEqual(sampled(marks(Net(6, 1, 1)), 2, 1).net, Net(3, 1, 2))
        self.assertEqual(sampled(Carpet(["abc"], shift=1), 3, 3), Carpet(["a"]))

    def test_the_greatest_cells(self):
        for net in (Net(2000, 3, 1), Net(1, 0, 2000), Net(40, 7, 50)):
            carpet = marks(net)
            self.assertEqual(len(sampled(carpet, 3, 7)), 2000)
            for width, height in ((1, 2), (7, 11), (BIG, 1), (40, 50)):
                found = sampled(carpet, width, height, start=(-width, height))
                self.assertEqual(found[1, -1], "b")
                for x, y in WINDOW[::13] + FAR[:3]:
                    self.assertEqual(found[x, y], carpet[width * (x - 1), height * (y + 1)])

    def test_samples_of_enlarged_carpets(self):
        for carpet in SAMPLES:
            for width, height in ((1, 2), (3, 1), (4, 5)):
                great = enlarged(carpet, width, height)
                for start in itertools.product(range(width), range(height)):
                    self.assertEqual(sampled(great, width, height, start=start), carpet)

    def test_other_factors(self):
        for value in NO_FACTORS:
            assert_raises(self, InvalidNumber, "value", value, sampled, Carpet(["ab"]), value, 1)
            assert_raises(self, InvalidNumber, "value", value, sampled, Carpet(["ab"]), 1, value)

    def test_other_starts(self):
        for value in NO_PLACES:
            assert_raises(self, InvalidPlace, "value", value, sampled, Carpet(["ab"]), 1, 1, start=value)

    def test_the_order_of_the_errors(self):
        assert_raises(self, InvalidNumber, "value", 0, sampled, Carpet(["ab"]), 0, -1, start=None)
        assert_raises(self, InvalidNumber, "value", -1, sampled, Carpet(["ab"]), 1, -1, start=None)


class Shares(unittest.TestCase):
    def test_by_counting(self):
        for carpet in SAMPLES + [marks(Net(40, 7, 50))]:
            cell = list(carpet.net.cell())
            wanted = {
                colour: share_of(sum(carpet[place] == colour for place in cell), len(cell))
                for colour in carpet.colours
            }
            self.assertEqual(shares(carpet), wanted)

    def test_the_colours_in_ascending_order(self):
        self.assertEqual(list(shares(Carpet(["zcabc"])).items()), [
            ("a", (1, 5)), ("b", (1, 5)), ("c", (2, 5)), ("z", (1, 5)),
        ])
        for carpet in SAMPLES:
            self.assertEqual("".join(shares(carpet)), carpet.colours)

    def test_lowest_terms(self):
        self.assertEqual(shares(Carpet(["aabbbb"])), {"a": (1, 3), "b": (2, 3)})
        self.assertEqual(shares(Carpet(["q"])), {"q": (1, 1)})
        self.assertEqual(shares(marks(Net(2000, 0, 1))), {"a": (1999, 2000), "b": (1, 2000)})
        for share in shares(Carpet(["aabbbb"])).values():
            self.assertIsInstance(share, tuple)

    def test_the_dict_is_new(self):
        carpet = Carpet(["aab"])
        shares(carpet).clear()
        self.assertEqual(shares(carpet), {"a": (2, 3), "b": (1, 3)})

    def test_moved_and_exchanged_colours(self):
        for carpet in SAMPLES:
            for motion in MOTIONS:
                self.assertEqual(shares(carpet * motion), shares(carpet))
            changed = shares(recoloured(carpet, EXCHANGE))
            self.assertEqual(changed, {EXCHANGE[colour]: share for colour, share in shares(carpet).items()})

    def test_enlarged(self):
        for carpet in SAMPLES:
            self.assertEqual(shares(enlarged(carpet, 3, 2)), shares(carpet))


if __name__ == "__main__":
    unittest.main()
