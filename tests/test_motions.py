import unittest
import unittest.mock

from carpets.errors import InvalidMotion, InvalidNumber, InvalidPlace
from carpets.motions import Motion
from odd_values import NO_INTEGERS, NO_PLACES, assert_raises

BIG = 123456789012345678901234567890

# Written out a second time, as the document has it, so that the table of the program is checked.
IMAGES = {
    "none": lambda x, y: (x, y),
    "left": lambda x, y: (-y, x),
    "half": lambda x, y: (-x, -y),
    "right": lambda x, y: (y, -x),
    "flip": lambda x, y: (x, -y),
    "mirror": lambda x, y: (-x, y),
    "swap": lambda x, y: (y, x),
    "cross": lambda x, y: (-y, -x),
}

PLACES = [(0, 0), (1, 0), (0, 1), (3, -2), (-5, 7), (BIG, 1 - BIG), (-BIG, 4)]
SHIFTS = [(0, 0), (3, 0), (-2, 5), (BIG, -BIG - 7)]
MOTIONS = [Motion(kind, shift) for kind in IMAGES for shift in SHIFTS]
NO_KINDS = NO_INTEGERS + [0, 1, "None", "LEFT", " left", "left ", "turn", "n", b"left", ("left",), ["left"], {"left"}]


class Making(unittest.TestCase):
    def test_kinds(self):
        self.assertEqual(Motion.KINDS, ("none", "left", "half", "right", "flip", "mirror", "swap", "cross"))
        self.assertIsInstance(Motion.KINDS, tuple)

    def test_properties(self):
        for kind in Motion.KINDS:
            motion = Motion(kind, (4, -9))
            self.assertEqual((motion.kind, motion.shift), (kind, (4, -9)))
            self.assertIs(motion.is_mirrored, kind in ("flip", "mirror", "swap", "cross"))

    def test_the_shift_may_be_left_out(self):
        self.assertEqual(Motion("swap").shift, (0, 0))
        self.assertEqual(Motion("swap"), Motion("swap", (0, 0)))

    def test_arguments_by_name(self):
        self.assertEqual(Motion(shift=(1, 2), kind="left"), Motion("left", (1, 2)))
        self.assertEqual(Motion.by(shift=(1, 2)), Motion("none", (1, 2)))
        self.assertEqual(Motion("half")(place=(1, 2)), (-1, -2))
        self.assertEqual(Motion("left").repeated(number=2), Motion("half"))

    def test_motions_never_change(self):
        motion = Motion("left", (1, 2))
        for name in ("kind", "shift", "is_mirrored"):
            with self.assertRaises(AttributeError):
                setattr(motion, name, (5, 5))
        motion((3, 3)), motion * motion, ~motion, motion.repeated(5)
        self.assertEqual(repr(motion), "Motion('left', (1, 2))")

    def test_by(self):
        self.assertEqual(Motion.by((BIG, -3)), Motion("none", (BIG, -3)))
        self.assertEqual(Motion("left", (4, 4)).by((1, 2)), Motion("none", (1, 2)))

    def test_other_values_are_no_kinds(self):
        for value in NO_KINDS:
            assert_raises(self, InvalidMotion, "value", value, Motion, value)
            assert_raises(self, InvalidMotion, "value", value, Motion, value, (1, 2))

    def test_other_values_are_no_shifts(self):
        for value in NO_PLACES:
            assert_raises(self, InvalidPlace, "value", value, Motion, "left", value)
            assert_raises(self, InvalidPlace, "value", value, Motion.by, value)

    def test_the_kind_is_checked_before_the_shift(self):
        assert_raises(self, InvalidMotion, "value", "turn", Motion, "turn", "shift")
        assert_raises(self, InvalidMotion, "value", "turn", Motion, shift=None, kind="turn")

    def test_the_interface_stands_in_the_class(self):
        for name in ("kind", "shift", "is_mirrored"):
            self.assertIsInstance(Motion.__dict__[name], property)
        self.assertIsInstance(Motion.__dict__["by"], staticmethod)
        for name in ("__call__", "__mul__", "__invert__", "__eq__", "__repr__", "repeated"):
            self.assertIn(name, Motion.__dict__)


class Images(unittest.TestCase):
    def test_example_of_the_document(self):
        turn = Motion("left", (3, 0))
        self.assertEqual(
            repr((turn((1, 2)), turn * Motion("flip"), ~turn, turn.repeated(4))),
            "((1, 1), Motion('cross', (3, 0)), Motion('right', (0, 3)), Motion('none', (0, 0)))",
        )

    def test_the_kind_comes_first_and_then_the_shift(self):
        for motion in MOTIONS:
            for place in PLACES:
                x, y = IMAGES[motion.kind](*place)
                image = motion(place)
                self.assertEqual(image, (x + motion.shift[0], y + motion.shift[1]))
                self.assertIsInstance(image, tuple)

    def test_other_values_have_no_image(self):
        for value in NO_PLACES:
            assert_raises(self, InvalidPlace, "value", value, Motion("left", (1, 2)), value)


class Products(unittest.TestCase):
    def test_first_one_and_then_the_other(self):
        for one in MOTIONS:
            for other in MOTIONS:
                product = one * other
                for place in PLACES:
                    self.assertEqual(product(place), other(one(place)))

    def test_the_order_of_two_motions_matters(self):
        self.assertEqual(Motion("left") * Motion("flip"), Motion("cross"))
        self.assertEqual(Motion("flip") * Motion("left"), Motion("swap"))

    def test_the_motion_that_leads_back(self):
        for motion in MOTIONS:
            back = ~motion
            self.assertEqual(motion * back, Motion("none"))
            self.assertEqual(back * motion, Motion("none"))
            for place in PLACES:
                self.assertEqual(back(motion(place)), place)


class Repetitions(unittest.TestCase):
    def test_small_numbers_one_by_one(self):
        for motion in MOTIONS:
            forth = back = Motion("none")
            for number in range(14):
                self.assertEqual(motion.repeated(number), forth)
                self.assertEqual(motion.repeated(-number), back)
                forth, back = forth * motion, back * ~motion

    def test_no_repetition(self):
        for motion in MOTIONS:
            self.assertEqual(motion.repeated(0), Motion("none", (0, 0)))

    def test_numbers_of_thirty_digits(self):
        self.assertEqual(Motion.by((3, -5)).repeated(BIG), Motion.by((3 * BIG, -5 * BIG)))
        self.assertEqual(Motion.by((3, -5)).repeated(-BIG), Motion.by((-3 * BIG, 5 * BIG)))
        self.assertEqual(Motion("flip", (2, 9)).repeated(2 * BIG), Motion.by((4 * BIG, 0)))
        self.assertEqual(Motion("flip", (2, 9)).repeated(2 * BIG + 1), Motion("flip", (4 * BIG + 2, 9)))
        self.assertEqual(Motion("flip", (2, 9)).repeated(-2 * BIG - 1), Motion("flip", (-4 * BIG - 2, 9)))
        self.assertEqual(Motion("left", (3, 0)).repeated(4 * BIG + 3), Motion("left", (3, 0)).repeated(3))

    def test_numbers_are_added(self):
        for motion in MOTIONS:
            for one in (0, 1, -1, 2, -3, BIG, -BIG, BIG + 1):
                for other in (0, 1, -2, 7, BIG + 3, -BIG - 2):
                    self.assertEqual(motion.repeated(one) * motion.repeated(other), motion.repeated(one + other))

    def test_other_values_are_no_numbers(self):
        for value in NO_INTEGERS + [(0, 0)]:
            assert_raises(self, InvalidNumber, "value", value, Motion("left", (1, 2)).repeated, value)


class Comparing(unittest.TestCase):
    def test_equal_exactly_with_the_same_kind_and_shift(self):
        again = [Motion(motion.kind, motion.shift) for motion in MOTIONS]
        for i, one in enumerate(MOTIONS):
            for j, other in enumerate(again):
                self.assertIs(one == other, i == j)
                self.assertIs(one != other, i != j)

    def test_values_of_other_kinds(self):
        motion = Motion("none")
        for value in NO_PLACES + ["none", ("none", (0, 0)), (0, 0), object(), Motion, unittest.mock.ANY]:
            self.assertIs(motion == value, False)
            self.assertIs(motion != value, True)

    def test_repr(self):
        self.assertEqual(repr(Motion("left", (0, 1))), "Motion('left', (0, 1))")
        self.assertEqual(repr(Motion("none")), "Motion('none', (0, 0))")
        self.assertEqual(repr(Motion("swap", (-BIG, BIG))), f"Motion('swap', ({-BIG}, {BIG}))")
        for motion in MOTIONS:
            self.assertEqual(eval(repr(motion)), motion)


if __name__ == "__main__":
    unittest.main()
