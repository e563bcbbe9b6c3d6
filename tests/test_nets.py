import inspect
import itertools
import unittest
import unittest.mock
from math import gcd

import carpets.nets
from carpets.errors import InvalidNet, InvalidNumber, InvalidPlace, LimitExceeded
from carpets.motions import Motion
from carpets.nets import Net, nets_above, nets_of_size
from odd_values import NO_INTEGERS, NO_PLACES, Stubborn, assert_raises

BIG = 123456789012345678901234567890
BIGGER = 987654321098765432109876543211


def all_triples(size):
    """The numbers of the nets of a size, recounted by all triples, ordered by c and b."""
    return [
        (a, b, c) for c in range(1, size + 1) for a in range(1, size + 1) if a * c == size for b in range(a)
    ]


SMALL = [Net(*numbers) for size in range(1, 7) for numbers in all_triples(size)]
WINDOW = [(x, y) for y in range(-7, 8) for x in range(-7, 8)]


def belongs(shift, numbers):
    """Whether a small shift is a sum of small multiples of (a, 0) and (b, c)."""
    a, b, c = numbers
    return any((i * a + j * b, j * c) == shift for i in range(-60, 61) for j in range(-10, 11))


def belongs_by_division(shift, numbers):
    """Whether a shift is j times (b, c) and then a multiple of (a, 0)."""
    a, b, c = numbers
    x, y = shift
    return y % c == 0 and (x - (y // c) * b) % a == 0


def basis(net):
    """The two shifts that give a net."""
    a, b, c = net.numbers
    return [(a, 0), (b, c)]


def members(numbers):
    """The places of the window that are sums of small multiples of (a, 0) and (b, c)."""
    a, b, c = numbers
    sums = {(i * a + j * b, j * c) for i in range(-60, 61) for j in range(-10, 11)}
    return {place for place in WINDOW if place in sums}


MEMBERS = [members(net.numbers) for net in SMALL]


def size_spanned(shifts):
    """The size of the net of the shifts, as the common divisor of the areas of all pairs."""
    return gcd(*[x * v - y * u for (x, y), (u, v) in itertools.combinations(shifts, 2)])


class Making(unittest.TestCase):
    def test_example_of_the_document(self):
        net = Net.of((4, 0), (2, 2), (2, -2))
        self.assertEqual(
            repr((net, (6, 2) in net, net.reduced((7, -3)), net | Net(3, 0, 2), len(list(nets_of_size(6))))),
            "(Net(4, 2, 2), True, (3, 1), Net(1, 0, 2), 12)",
        )

    def test_properties(self):
        net = Net(3, 1, 2)
        self.assertEqual((net.numbers, net.size), ((3, 1, 2), 6))
        self.assertIsInstance(net.numbers, tuple)
        self.assertEqual(Net(BIG, BIG - 1, BIGGER).numbers, (BIG, BIG - 1, BIGGER))
        self.assertEqual(Net(BIG, BIG - 1, BIGGER).size, BIG * BIGGER)

    def test_whole(self):
        self.assertEqual(Net.whole(), Net(1, 0, 1))
        self.assertEqual(Net.whole().numbers, (1, 0, 1))
        self.assertEqual(Net.whole().size, 1)

    def test_arguments_by_name(self):
        net = Net(c=2, b=1, a=3)
        self.assertEqual(net, Net(3, 1, 2))
        self.assertEqual(net.reduced(place=(4, 0)), (1, 0))
        self.assertEqual(net.order(shift=(1, 0)), 3)
        self.assertIs(net.is_within(other=Net.whole()), True)
        self.assertEqual(net.scaled(factor=2), Net(6, 2, 4))
        self.assertEqual(list(nets_of_size(size=1)), [Net(1, 0, 1)])
        self.assertEqual(nets_above(net=Net(1, 0, 1)), [Net(1, 0, 1)])

    def test_nets_never_change(self):
        net = Net(3, 1, 2)
        for name in ("numbers", "size"):
            with self.assertRaises(AttributeError):
                setattr(net, name, (1, 0, 1))
        net & Net(2, 1, 3), net | Net(2, 1, 3), net * Motion("left"), net.scaled(3), nets_above(net), list(net.cell())
        self.assertEqual(net.numbers, (3, 1, 2))

    def test_all_small_numbers(self):
        for numbers in itertools.product(range(-2, 5), repeat=3):
            a, b, c = numbers
            if a >= 1 and c >= 1 and 0 <= b < a:
                self.assertEqual(Net(*numbers).numbers, numbers)
            else:
                with self.assertRaises(InvalidNet) as caught:
                    Net(*numbers)
                self.assertEqual(caught.exception.value, numbers)

    def test_numbers_of_thirty_digits_that_are_wrong(self):
        for numbers in ((BIG, BIG, 1), (BIG, -1, 1), (-BIG, 0, 1), (BIG, 0, -BIG), (BIG, 0, 0)):
            with self.assertRaises(InvalidNet) as caught:
                Net(*numbers)
            self.assertEqual(caught.exception.value, numbers)

    def test_any_other_values(self):
        for value in NO_INTEGERS + [(3, 1, 2)]:
            for numbers in ((value, 0, 1), (3, value, 1), (3, 1, value), (value, value, value), (0, 5, value)):
                with self.assertRaises(InvalidNet) as caught:
                    Net(*numbers)
                held = caught.exception.value
                self.assertIsInstance(held, tuple)
                self.assertEqual(len(held), 3)
                for one, other in zip(held, numbers):
                    self.assertIs(one, other)

    def test_the_interface_stands_in_the_class(self):
        for name in ("numbers", "size"):
            self.assertIsInstance(Net.__dict__[name], property)
        self.assertIsInstance(Net.__dict__["of"], staticmethod)
        self.assertIsInstance(Net.__dict__["whole"], classmethod)
        for name in ("__contains__", "__and__", "__or__", "__mul__", "__eq__", "__repr__"):
            self.assertIn(name, Net.__dict__)
        for name in ("reduced", "order", "cell", "is_within", "scaled"):
            self.assertIn(name, Net.__dict__)


class Comparing(unittest.TestCase):
    def test_equal_exactly_with_the_same_numbers(self):
        for i, one in enumerate(SMALL):
            for j, other in enumerate(SMALL):
                again = Net(*other.numbers)
                self.assertIs(one == again, i == j)
                self.assertIs(one != again, i != j)
        self.assertEqual(Net(BIG, 5, BIGGER), Net(BIG, 5, BIGGER))
        self.assertNotEqual(Net(BIG, 5, BIGGER), Net(BIG, 5, BIGGER + 1))

    def test_values_of_other_kinds(self):
        net = Net(3, 1, 2)
        others = [(3, 1, 2), [3, 1, 2], "Net(3, 1, 2)", 6, object(), Net, Motion("none"), unittest.mock.ANY]
        for value in NO_PLACES + others:
            self.assertIs(net == value, False)
            self.assertIs(net != value, True)

    def test_repr(self):
        self.assertEqual(repr(Net(3, 1, 2)), "Net(3, 1, 2)")
        self.assertEqual(repr(Net(BIG, 0, BIGGER)), f"Net({BIG}, 0, {BIGGER})")
        for net in SMALL:
            self.assertEqual(eval(repr(net)), net)


class Members(unittest.TestCase):
    def test_small_places(self):
        for net, wanted in zip(SMALL, MEMBERS):
            self.assertEqual({place for place in WINDOW if place in net}, wanted)

    def test_places_of_thirty_digits(self):
        net = Net(BIG, BIG - 12345, BIGGER)
        for i, j in ((0, 0), (1, 0), (0, 1), (-1, 1), (BIG, -BIGGER), (-BIG - 3, 5), (7, BIG)):
            x, y = i * BIG + j * (BIG - 12345), j * BIGGER
            self.assertIs((x, y) in net, True)
            for wrong in ((x + 1, y), (x - 1, y), (x, y + 1), (x, y - 1), (x + BIG - 1, y)):
                self.assertIs(wrong in net, False)

    def test_any_other_value(self):
        for net in (Net.whole(), Net(3, 1, 2)):
            for value in NO_PLACES:
                self.assertIs(value in net, False)


class Reducing(unittest.TestCase):
    def test_small_places(self):
        for net, wanted in zip(SMALL, MEMBERS):
            cell = list(net.cell())
            for x, y in itertools.product(range(-3, 4), repeat=2):
                found = net.reduced((x, y))
                self.assertIn(found, cell)
                self.assertIsInstance(found, tuple)
                self.assertTrue(belongs((x - found[0], y - found[1]), net.numbers))

    def test_places_of_the_cell_stay(self):
        for net in SMALL:
            for place in net.cell():
                self.assertEqual(net.reduced(place), place)

    def test_places_of_thirty_digits(self):
        self.assertEqual(Net(3, 1, 2).reduced((10 ** 30, 10 ** 30 + 1)), ((10 ** 30 - 5 * 10 ** 29) % 3, 1))
        net = Net(BIG, BIG - 12345, BIGGER)
        for x, y in ((0, 0), (BIG - 1, BIGGER - 1), (17, 10 ** 29)):
            for i, j in ((1, 1), (-BIG, BIGGER), (BIGGER, -BIG - 1)):
                far = (x + i * BIG + j * (BIG - 12345), y + j * BIGGER)
                self.assertEqual(net.reduced(far), (x, y))

    def test_other_values(self):
        for value in NO_PLACES:
            assert_raises(self, InvalidPlace, "value", value, Net(3, 1, 2).reduced, value)


class Orders(unittest.TestCase):
    def test_small_shifts_by_steps(self):
        for net in SMALL:
            for x, y in itertools.product(range(-7, 8), repeat=2):
                steps = 1
                while not belongs_by_division((steps * x, steps * y), net.numbers):
                    steps += 1
                self.assertEqual(net.order((x, y)), steps)

    def test_no_shift(self):
        self.assertEqual(Net(BIG, 1, BIGGER).order((0, 0)), 1)

    def test_thirty_digits(self):
        a, c = 2 ** 50 * 3 ** 31, 5 ** 40
        self.assertEqual(Net(BIG, 0, 1).order((1, 0)), BIG)
        self.assertEqual(Net(1, 0, BIG).order((-BIGGER, -1)), BIG)
        self.assertEqual(Net(BIG, 1, BIGGER).order((0, 1)), BIG * BIGGER)
        for net in (Net(a, 0, c), Net(a, 1, c), Net(a, 6 ** 20, c), Net(a, a - 1, c)):
            for x, y in ((1, 1), (BIG, BIGGER), (-BIG, 25), (2 ** 49, -5 ** 39), (0, 5 ** 45)):
                order = net.order((x, y))
                self.assertIn((order * x, order * y), net)
                for prime in (2, 3, 5):
                    if order % prime == 0:
                        self.assertNotIn((order // prime * x, order // prime * y), net)
                self.assertEqual(net.size % order, 0)

    def test_other_values(self):
        for value in NO_PLACES:
            assert_raises(self, InvalidPlace, "value", value, Net(3, 1, 2).order, value)


class Cells(unittest.TestCase):
    def test_place_order(self):
        self.assertEqual(list(Net(3, 1, 2).cell()), [(0, 0), (1, 0), (2, 0), (0, 1), (1, 1), (2, 1)])
        self.assertEqual(list(Net.whole().cell()), [(0, 0)])
        for net in SMALL:
            a, _, c = net.numbers
            self.assertEqual(list(net.cell()), [(x, y) for y in range(c) for x in range(a)])
            self.assertEqual(len(list(net.cell())), net.size)

    def test_the_places_are_made_one_by_one(self):
        cell = Net(BIG, 1, BIGGER).cell()
        self.assertTrue(inspect.isgenerator(cell))
        self.assertEqual([next(cell), next(cell), next(cell)], [(0, 0), (1, 0), (2, 0)])
        cell = Net(2, 1, BIGGER).cell()
        self.assertEqual([next(cell) for _ in range(5)], [(0, 0), (1, 0), (0, 1), (1, 1), (0, 2)])

    def test_two_iterations_do_not_meet(self):
        net = Net(2, 0, 1)
        one, other = net.cell(), net.cell()
        self.assertEqual([next(one), next(one), next(other)], [(0, 0), (1, 0), (0, 0)])


class Sums(unittest.TestCase):
    def test_the_least_net_that_contains_both(self):
        nets = [net for net in SMALL if net.size <= 4] + [Net(6, 2, 1), Net(3, 2, 2)]
        for one, other in itertools.product(nets, repeat=2):
            sum_of_both = one | other
            above = [
                net for net in SMALL
                if all(belongs_by_division(shift, net.numbers) for shift in basis(one) + basis(other))
            ]
            self.assertEqual(sum_of_both, max(above, key=lambda net: net.size))

    def test_the_sizes_of_sum_and_common_part(self):
        for one, other in itertools.product(SMALL, repeat=2):
            self.assertEqual((one | other).size * (one & other).size, one.size * other.size)

    def test_thirty_digits(self):
        one, other = Net(BIG, 77, BIGGER), Net(BIGGER, 10 ** 29, BIG)
        for first, second in ((one, other), (other, one), (one, Net(2 * BIG, 154, BIGGER)), (other, other)):
            both = first | second
            self.assertEqual(both.size, size_spanned(basis(first) + basis(second)))
            for shift in basis(first) + basis(second):
                self.assertIn(shift, both)
        self.assertEqual(Net(6 * BIG, 0, 10 * BIGGER) | Net(4 * BIG, 0, 15 * BIGGER), Net(2 * BIG, 0, 5 * BIGGER))


class CommonParts(unittest.TestCase):
    def test_the_shifts_that_belong_to_both(self):
        nets = [net for net in SMALL if net.size <= 5]
        for one, other in itertools.product(nets, repeat=2):
            both = one & other
            # Twenty-five steps in each direction meet every shift of the cell of the common part.
            for x, y in itertools.product(range(26), repeat=2):
                wanted = belongs_by_division((x, y), one.numbers) and belongs_by_division((x, y), other.numbers)
                self.assertEqual((x, y) in both, wanted)

    def test_examples(self):
        self.assertEqual(Net(2, 0, 1) & Net(3, 0, 1), Net(6, 0, 1))
        self.assertEqual(Net(2, 1, 1) & Net(2, 0, 1), Net(2, 0, 2))
        self.assertEqual(Net(3, 1, 1) & Net(3, 2, 1), Net(3, 0, 3))
        self.assertEqual(Net(5, 2, 3) & Net.whole(), Net(5, 2, 3))
        self.assertEqual(Net(5, 2, 3) & Net(5, 2, 3), Net(5, 2, 3))

    def test_thirty_digits(self):
        one, other = Net(BIG, 77, BIGGER), Net(BIGGER, 10 ** 29, BIG)
        for first, second in ((one, other), (other, one), (one, Net(2 * BIG, 154, BIGGER)), (other, other)):
            both = first & second
            self.assertEqual(both.size * size_spanned(basis(first) + basis(second)), first.size * second.size)
            for shift in basis(both):
                self.assertIn(shift, first)
                self.assertIn(shift, second)
        self.assertEqual(Net(6 * BIG, 0, 1) & Net(4 * BIG, 0, BIGGER), Net(12 * BIG, 0, BIGGER))


class Images(unittest.TestCase):
    def test_the_images_of_the_shifts(self):
        for kind in Motion.KINDS:
            for net, wanted in zip(SMALL, MEMBERS):
                image = net * Motion(kind)
                self.assertEqual({place for place in WINDOW if place in image}, {Motion(kind)(p) for p in wanted})
                self.assertEqual(image.size, net.size)

    def test_the_shift_of_the_motion_has_no_effect(self):
        for kind in Motion.KINDS:
            for net in SMALL:
                self.assertEqual(net * Motion(kind, (5, -BIG)), net * Motion(kind))

    def test_examples(self):
        self.assertEqual(Net(3, 1, 2) * Motion("left"), Net(6, 4, 1))
        self.assertEqual(Net(3, 1, 2) * Motion("mirror"), Net(3, 2, 2))
        self.assertEqual(Net(3, 1, 2) * Motion("half"), Net(3, 1, 2))

    def test_thirty_digits(self):
        net = Net(BIG, 77, BIGGER)
        for kind in Motion.KINDS:
            motion = Motion(kind, (3, BIG))
            self.assertEqual(net * motion * ~motion, net)
            for shift in basis(net):
                self.assertIn(Motion(kind)(shift), net * motion)


class Within(unittest.TestCase):
    def test_all_shifts_belong_to_the_other_net(self):
        for one, shifts in zip(SMALL, MEMBERS):
            for other, others in zip(SMALL, MEMBERS):
                self.assertIs(one.is_within(other), shifts <= others)

    def test_thirty_digits(self):
        net = Net(BIG, 77, BIGGER)
        self.assertIs(Net(3 * BIG, 77 + BIG, BIGGER).is_within(net), True)
        self.assertIs(Net(3 * BIG, 78 + BIG, BIGGER).is_within(net), False)
        self.assertIs(net.is_within(Net(3 * BIG, 77 + BIG, BIGGER)), False)


class Scaling(unittest.TestCase):
    def test_each_shift_is_multiplied(self):
        for net, shifts in zip(SMALL, MEMBERS):
            for factor in (1, 2, 3, 7):
                scaled = net.scaled(factor)
                self.assertEqual(scaled.numbers, tuple(factor * number for number in net.numbers))
                wanted = {(x * factor, y * factor) for x, y in shifts}
                self.assertEqual({p for p in WINDOW if p in scaled}, {p for p in WINDOW if p in wanted})

    def test_thirty_digits(self):
        self.assertEqual(Net(BIG, 7, BIGGER).scaled(BIG), Net(BIG * BIG, 7 * BIG, BIGGER * BIG))

    def test_other_values(self):
        for value in NO_INTEGERS + [0, -1, -BIG]:
            assert_raises(self, InvalidNumber, "value", value, Net(3, 1, 2).scaled, value)


class OfShifts(unittest.TestCase):
    def test_the_numbers_of_a_net_lead_back_to_it(self):
        for net in SMALL:
            for factor in range(-4, 5):
                (a, _), (b, c) = basis(net)
                self.assertEqual(Net.of((a, 0), (b + factor * a, c)), net)
                self.assertEqual(Net.of((a + factor * b, factor * c), (b, c)), net)

    def test_small_shifts(self):
        places = list(itertools.product(range(-3, 4), repeat=2))
        for one, other in itertools.combinations(places, 2):
            area = one[0] * other[1] - one[1] * other[0]
            if area != 0:
                net = Net.of(one, other)
                self.assertEqual(net.size, abs(area))
                self.assertTrue(belongs(one, net.numbers) and belongs(other, net.numbers))

    def test_in_any_order_and_with_signs_turned(self):
        shifts = [(4, 0), (2, 2), (2, -2), (0, 0), (6, 2)]
        for some in itertools.permutations(shifts):
            self.assertEqual(Net.of(*some), Net(4, 2, 2))
        for signs in itertools.product((1, -1), repeat=5):
            self.assertEqual(Net.of(*[(s * x, s * y) for s, (x, y) in zip(signs, shifts)]), Net(4, 2, 2))

    def test_twice_and_with_no_shift_among_them(self):
        self.assertEqual(Net.of((3, 1), (3, 1), (0, 2), (0, 0), (0, 2)), Net.of((3, 1), (0, 2)))
        self.assertEqual(Net.of((0, 0), (0, 5), (0, 0), (7, 0), (0, 0)), Net(7, 0, 5))

    def test_three_shifts_of_which_two_lie_on_one_line(self):
        self.assertEqual(Net.of((2, 4), (3, 6), (0, 7)), Net.of((1, 2), (0, 7)))
        self.assertEqual(Net.of((4, 0), (6, 0), (1, 3)), Net(2, 1, 3))
        self.assertEqual(Net.of((0, 4), (0, -6), (3, 1)), Net.of((0, 2), (3, 1)))

    def test_thirty_digits(self):
        shifts = [(BIG, -BIGGER), (-BIGGER, BIG + 6), (3 * BIG, 9 * BIGGER), (0, 0), (-BIG, BIGGER)]
        for number in range(2, 6):
            for some in itertools.permutations(shifts, number):
                if size_spanned(some) != 0:
                    net = Net.of(*some)
                    self.assertEqual(net.size, size_spanned(some))
                    self.assertTrue(all(shift in net for shift in some))
        self.assertEqual(Net.of((BIG, 0), (0, BIG), (BIG + 1, 0), (0, BIG + 1)), Net.whole())

    def test_many_shifts(self):
        shifts = [(BIG * k + k * k, BIGGER * k - 3) for k in range(2000)]
        self.assertTrue(all(shift in Net.of(*shifts) for shift in shifts))

    def test_fewer_than_two_shifts(self):
        for shifts in ((), ((0, 0),), ((1, 0),), ((BIG, BIGGER),)):
            with self.assertRaises(InvalidNet) as caught:
                Net.of(*shifts)
            self.assertEqual(caught.exception.value, shifts)
            self.assertIsInstance(caught.exception.value, tuple)

    def test_shifts_on_one_line(self):
        lines = [
            ((1, 0), (2, 0)), ((0, 3), (0, 2)), ((0, 0), (0, 0)), ((0, 0), (5, 5)), ((1, 2), (1, 2)),
            ((2, -4), (-3, 6), (5, -10)), ((1, 1), (-1, -1), (0, 0)), ((BIG, 2 * BIG), (BIGGER, 2 * BIGGER)),
        ]
        for shifts in lines:
            with self.assertRaises(InvalidNet) as caught:
                Net.of(*shifts)
            self.assertEqual(caught.exception.value, shifts)

    def test_other_values(self):
        for value in NO_PLACES:
            for shifts in ((value,), (value, (1, 0)), ((1, 0), (0, 1), value), ((1, 0), value, (2, 0))):
                assert_raises(self, InvalidPlace, "value", value, Net.of, *shifts)

    def test_the_first_value_that_is_no_place(self):
        one, other = [1, 2], Stubborn()
        assert_raises(self, InvalidPlace, "value", one, Net.of, (1, 0), one, other)
        assert_raises(self, InvalidPlace, "value", other, Net.of, other, one)


class NetsOfSize(unittest.TestCase):
    def test_all_triples(self):
        for size in range(1, 61):
            self.assertEqual([net.numbers for net in nets_of_size(size)], all_triples(size))

    def test_the_least_and_the_greatest_size(self):
        self.assertEqual(list(nets_of_size(1)), [Net(1, 0, 1)])
        wanted = [
            (10000 // c, b, c) for c in range(1, 10001) if 10000 % c == 0 for b in range(10000 // c)
        ]
        self.assertEqual([net.numbers for net in nets_of_size(10000)], wanted)

    def test_past_the_limits(self):
        for value in NO_INTEGERS + [0, -1, -BIG, 10001, BIG, (1, 1)]:
            nets = nets_of_size(value)
            self.assertTrue(inspect.isgenerator(nets))
            assert_raises(self, InvalidNumber, "value", value, next, nets)

    def test_the_nets_are_made_one_by_one(self):
        with unittest.mock.patch.object(carpets.nets, "Net", side_effect=Net) as made:
            nets = nets_of_size(10000)
            self.assertEqual(made.call_count, 0)
            self.assertEqual([next(nets).numbers, next(nets).numbers], [(10000, 0, 1), (10000, 1, 1)])
            self.assertEqual(made.call_count, 2)


class NetsAbove(unittest.TestCase):
    def test_every_net_of_the_sizes_that_divide(self):
        for numbers in [net.numbers for net in SMALL] + all_triples(12) + [(6, 4, 6), (9, 3, 3), (30, 7, 2)]:
            net = Net(*numbers)
            wanted = [
                triple
                for size in range(1, net.size + 1) if net.size % size == 0
                for triple in all_triples(size)
                if all(belongs_by_division(shift, triple) for shift in basis(net))
            ]
            self.assertEqual([above.numbers for above in nets_above(net)], wanted)

    def test_examples(self):
        self.assertEqual(nets_above(Net.whole()), [Net(1, 0, 1)])
        self.assertEqual(nets_above(Net(2, 0, 2)), [
            Net(1, 0, 1), Net(2, 0, 1), Net(2, 1, 1), Net(1, 0, 2), Net(2, 0, 2),
        ])

    def test_the_size_of_the_limit(self):
        self.assertEqual(len(nets_above(Net(2000, 0, 1))), 20)
        self.assertEqual(len(nets_above(Net(1, 0, 2000))), 20)
        self.assertEqual(nets_above(Net(1999, 5, 1)), [Net(1, 0, 1), Net(1999, 5, 1)])
        net = Net(50, 10, 40)
        above = nets_above(net)
        self.assertEqual((above[0], above[-1]), (Net(1, 0, 1), net))
        self.assertTrue(all(net.is_within(one) for one in above))

    def test_past_the_limit(self):
        for net in (Net(2001, 0, 1), Net(1, 0, 2001), Net(3, 1, 667), Net(BIG, 77, BIGGER)):
            assert_raises(self, LimitExceeded, "limit", 2000, nets_above, net)

    def test_the_list_is_new(self):
        net = Net(2, 1, 2)
        first = nets_above(net)
        wanted = list(first)
        first.clear()
        self.assertEqual(nets_above(net), wanted)


if __name__ == "__main__":
    unittest.main()
