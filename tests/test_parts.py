import inspect
import itertools
import unittest
import unittest.mock

from carpets.carpets import Carpet
from carpets.errors import InvalidColour, InvalidPlace, LimitExceeded
from carpets.motions import Motion
from carpets.nets import Net
from carpets.parts import Part, are_joined, is_path, part_at, parts, path, repainted, touching
from carpets.weaving import recoloured
from models import (
    BIG, BIGGER, EXCHANGE, FAR, MOTIONS, SAMPLES, WINDOW, all_nets, all_texts, around, basis, flooded, marks, square,
)
from odd_values import NO_COLOURS, NO_PLACES, Stubborn, assert_raises

# Small enough that a square of a few dozen places tells which places of its middle are joined.
SMALL = [Carpet.on(net, text) for size in range(1, 6) for net in all_nets(size) for text in all_texts(size)][::3]
FEW = SMALL[::9] + [
    Carpet(["ab"]), Carpet(["a", "b"]), Carpet(["ab"], shift=1), Carpet(["aab"], shift=1), Carpet(["aab", "bba"]),
    Carpet(["aaab", "abbb"], shift=1), Carpet(["aaa", "aba"]), Carpet(["abcc", "aabc", "bbbc"], shift=2),
    Carpet(["abb", "aab", "bab"]), Carpet(["aaaab", "bbbab", "aaaab"]), Carpet(["aabb", "abba", "bbaa", "baab"]),
    Carpet(["aaaaa", "abbba", "ababa", "abbba"]), Carpet(["abbb", "aaab"], shift=1),
]

STAIRS = Carpet(["aab"], shift=1)
ISLANDS = Carpet(["bbbbb", "baaab", "babab"])

# A snake of a places along which a path has many more places than the straight way.
SNAKE = Carpet(["bbbbbbbbbb", "aaaaaaaaab", "abbbbbbbbb", "aaaaaaaaab", "bbbbbbbbab", "bbbbbbbbab"])


def combined(shifts):
    """The sums of small multiples of no, one or two shifts."""
    sums = {(0, 0)}
    for dx, dy in shifts:
        sums = {(x + k * dx, y + k * dy) for x, y in sums for k in range(-40, 41)}
    return sums


class Examples(unittest.TestCase):
    def test_example_of_the_document(self):
        part = part_at(STAIRS, (0, 0))
        self.assertEqual(
            repr((part.basis, part.size, part.places, are_joined(STAIRS, (0, 0), (10 ** 30, 10 ** 30)),
                  are_joined(STAIRS, (0, 0), (3, 0)))),
            "(((1, 1),), None, 2, True, False)",
        )

    def test_arguments_by_name(self):
        carpet = Carpet(["aab"])
        self.assertEqual(len(parts(carpet=carpet)), 2)
        self.assertEqual(part_at(place=(5, 0), carpet=carpet).colour, "b")
        self.assertIs(are_joined(second=(1, 9), first=(0, 0), carpet=carpet), True)
        self.assertEqual(touching(carpet=carpet), [("a", "b")])
        self.assertEqual(repainted(colour="c", place=(2, 0), carpet=carpet), Carpet(["aac"]))
        self.assertEqual(path(second=(1, 0), first=(0, 0), carpet=carpet), [(0, 0), (1, 0)])
        self.assertIs(is_path(value=[(0, 0)], second=(0, 0), first=(0, 0), carpet=carpet), True)

    def test_parameters(self):
        for call, wanted in (
            (parts, "(carpet)"), (part_at, "(carpet, place)"), (are_joined, "(carpet, first, second)"),
            (touching, "(carpet)"), (repainted, "(carpet, place, colour)"), (path, "(carpet, first, second)"),
            (is_path, "(carpet, first, second, value)"),
        ):
            self.assertEqual(str(inspect.signature(call)), wanted)
            self.assertEqual(call.__module__, "carpets.parts")

    def test_the_interface_stands_in_the_class(self):
        self.assertEqual(Part.__module__, "carpets.parts")
        for name in ("colour", "start", "places", "basis", "size", "border", "net"):
            self.assertIsInstance(Part.__dict__[name], property)
        self.assertIn("__eq__", Part.__dict__)


class Joining(unittest.TestCase):
    def test_paths_in_a_square(self):
        middle = square(3)
        for carpet in FEW:
            roots = flooded(carpet, 25)
            for first, second in itertools.product([(0, 0), (1, 0), (0, 1), (2, 2), (-1, 2)], middle):
                self.assertIs(are_joined(carpet, first, second), roots[first] == roots[second])

    def test_a_place_is_joined_to_itself(self):
        for carpet in FEW + SAMPLES:
            for place in WINDOW[::9] + FAR:
                self.assertIs(are_joined(carpet, place, place), True)

    def test_different_colours_are_not_joined(self):
        for carpet in SAMPLES:
            for place in WINDOW[::5]:
                if carpet[place] != carpet[0, 0]:
                    self.assertIs(are_joined(carpet, (0, 0), place), False)

    def test_corners_do_not_touch(self):
        chess = Carpet(["ab", "ba"])
        self.assertIs(are_joined(chess, (0, 0), (1, 1)), False)
        self.assertIs(are_joined(chess, (0, 0), (2, 0)), False)

    def test_far_places_of_parts_without_an_end(self):
        self.assertIs(are_joined(STAIRS, (BIG, BIG), (BIG + 1, BIG)), True)
        self.assertIs(are_joined(STAIRS, (0, 0), (BIG + 1, BIG)), True)
        self.assertIs(are_joined(STAIRS, (0, 0), (BIG + 3, BIG)), False)
        self.assertIs(are_joined(STAIRS, (-BIG, -BIG), (BIGGER, BIGGER)), True)
        rows = Carpet(["aa", "bc"])
        self.assertIs(are_joined(rows, (0, 0), (BIG, 0)), True)
        self.assertIs(are_joined(rows, (0, 0), (BIG, 2)), False)
        self.assertIs(are_joined(rows, (-BIG, 2 * BIGGER), (BIG, 2 * BIGGER)), True)
        grid = Carpet(["aaa", "aba"])
        self.assertIs(are_joined(grid, (0, 0), (3 * BIG, 2 * BIGGER)), True)
        self.assertIs(are_joined(grid, (1, 1), (1 + 3 * BIG, 1)), False)
        self.assertIs(are_joined(Carpet(["a"]), (-BIG, 5), (BIGGER, -BIG)), True)

    def test_parts_that_meet_themselves_after_several_shifts(self):
        # The way to the right ends a row higher, so that only every second shift of this kind leads back.
        carpet = Carpet(["aaab", "bbab", "bbaa", "bbbb"], shift=2)
        roots = flooded(carpet, 30)
        for shift in itertools.product(range(-8, 9), repeat=2):
            self.assertIs(are_joined(carpet, (0, 0), shift), roots[0, 0] == roots[shift])

    def test_parts_of_one_class_beside_each_other(self):
        carpet = Carpet(["aaaab"], shift=2)
        roots = flooded(carpet, 30)
        for place in square(5):
            self.assertIs(are_joined(carpet, (0, 0), place), roots[0, 0] == roots[place])

    def test_other_values(self):
        for value in NO_PLACES:
            assert_raises(self, InvalidPlace, "value", value, are_joined, Carpet(["ab"]), value, (0, 0))
            assert_raises(self, InvalidPlace, "value", value, are_joined, Carpet(["ab"]), (0, 0), value)
        one, other = [0, 0], Stubborn()
        assert_raises(self, InvalidPlace, "value", one, are_joined, Carpet(["ab"]), one, other)
        assert_raises(self, InvalidPlace, "value", other, are_joined, Carpet(["ab"]), other, one)


class Parts(unittest.TestCase):
    def classes(self, carpet, roots):
        """The places of the cell by classes, each in place order: parts that shifts of the net carry to each other."""
        names = {}
        for place in square(12):
            names.setdefault(roots[place], set()).add(carpet.net.reduced(place))
        found = []
        for place in carpet.net.cell():
            if not any(place in known for known in found):
                members = {place}
                for _ in range(len(carpet)):
                    for homes in names.values():
                        if homes & members:
                            members |= homes
                found.append(members)
        return found

    def check(self, carpet):
        roots = flooded(carpet, 25)
        found = parts(carpet)
        classes = self.classes(carpet, roots)
        self.assertEqual(len(found), len(classes))
        for part, members in zip(found, classes):
            start = min(members, key=lambda place: (place[1], place[0]))
            self.assertEqual((part.colour, part.start, part.places), (carpet[start], start, len(members)))
            self.assertEqual(part.border, sum(carpet[near] != part.colour for one in members for near in around(one)))
            self.check_basis(carpet, part, roots)
            self.check_size(part, roots)
            for place in members:
                self.assertEqual(part_at(carpet, place), part)

    def check_basis(self, carpet, part, roots):
        x, y = part.start
        sums = combined(part.basis)
        for dx, dy in square(6):
            carries = (dx, dy) in carpet.net and roots[x, y] == roots[x + dx, y + dy]
            self.assertEqual((dx, dy) in sums, carries, (carpet, part.start, part.basis, (dx, dy)))
        self.assertTrue(all(shift in carpet.net for shift in part.basis))
        self.assertIsInstance(part.basis, tuple)
        if len(part.basis) == 1:
            (dx, dy), = part.basis
            self.assertTrue(dy > 0 or (dy == 0 and dx > 0))
        if len(part.basis) == 2:
            self.assertEqual(list(part.basis), basis(part.net))
        else:
            self.assertIsNone(part.net)

    def check_size(self, part, roots):
        size = sum(root == roots[part.start] for root in roots.values())
        self.assertEqual(part.size, size if part.basis == () else None)

    def test_small_carpets(self):
        for carpet in FEW:
            self.check(carpet)

    def test_snake_and_islands(self):
        for carpet in (ISLANDS, SNAKE, Carpet(["abcabd", "aabbcd"], shift=2)):
            self.check(carpet)

    def test_islands(self):
        sea, island = parts(ISLANDS)
        self.assertEqual((sea.colour, sea.start, sea.places, sea.size), ("b", (0, 0), 10, None))
        self.assertEqual((sea.basis, sea.net, sea.border), (((5, 0), (0, 3)), Net(5, 0, 3), 12))
        self.assertEqual((island.colour, island.start, island.places, island.size), ("a", (1, 1), 5, 5))
        self.assertEqual((island.basis, island.net, island.border), ((), None, 12))

    def test_the_whole_plane(self):
        part, = parts(Carpet(["q"]))
        self.assertEqual((part.colour, part.start, part.places, part.size), ("q", (0, 0), 1, None))
        self.assertEqual((part.basis, part.net, part.border), (((1, 0), (0, 1)), Net(1, 0, 1), 0))

    def test_one_direction(self):
        for carpet, wanted in (
            (Carpet(["aab"]), ((0, 1),)), (Carpet(["a", "b"]), ((1, 0),)), (STAIRS, ((1, 1),)),
            (Carpet(["abb"], shift=-1) * Motion("flip"), ()), (Carpet(["aab"], shift=-1), ((-1, 1),)),
            (Carpet(["abb", "aab", "bab"], shift=1), ((1, 3),)), (Carpet(["aaaab", "bbbab"], shift=3), ((3, 2),)),
        ):
            part = part_at(carpet, (0, 0))
            self.assertEqual((part.basis, part.net), (wanted, None))
            self.assertEqual(part.size, 1 if wanted == () else None)

    def test_ordered_by_start(self):
        for carpet in FEW + SAMPLES:
            starts = [part.start for part in parts(carpet)]
            self.assertEqual(starts, sorted(starts, key=lambda place: (place[1], place[0])))
            self.assertEqual(len(set(starts)), len(starts))

    def test_the_places_make_the_cell(self):
        for carpet in SAMPLES + [marks(Net(40, 7, 50))]:
            self.assertEqual(sum(part.places for part in parts(carpet)), len(carpet))

    def test_great_cells(self):
        for net in (Net(40, 7, 50), Net(2000, 900, 1), Net(2, 1, 1000)):
            sea, island = sorted(parts(marks(net)), key=lambda part: part.colour)
            self.assertEqual((sea.places, sea.size, sea.border, sea.net), (1999, None, 4, net))
            self.assertEqual((island.places, island.size, island.border, island.start), (1, 1, 4, (0, 0)))
        line, band = parts(marks(Net(1, 0, 2000)))
        self.assertEqual((line.places, line.basis, line.border), (1, ((1, 0),), 2))
        self.assertEqual((band.places, band.basis, band.border), (1999, ((1, 0),), 2))

    def test_the_part_at_a_far_place(self):
        for carpet in FEW[::3]:
            for place in FAR:
                self.assertEqual(part_at(carpet, place), part_at(carpet, carpet.net.reduced(place)))

    def test_part_at_other_values(self):
        for value in NO_PLACES:
            assert_raises(self, InvalidPlace, "value", value, part_at, Carpet(["ab"]), value)

    def test_the_list_is_new(self):
        parts(ISLANDS).clear()
        self.assertEqual(len(parts(ISLANDS)), 2)

    def test_parts_never_change(self):
        part = part_at(ISLANDS, (0, 0))
        for name in ("colour", "start", "places", "basis", "size", "border", "net"):
            with self.assertRaises(AttributeError):
                setattr(part, name, None)


class EqualParts(unittest.TestCase):
    def described(self, part):
        net = None if part.net is None else part.net.numbers
        return (part.colour, part.start, part.places, part.basis, part.size, part.border, net)

    def test_all_is_compared(self):
        some = [part for carpet in FEW + SAMPLES for part in parts(carpet)]
        for one, other in itertools.product(some, repeat=2):
            self.assertIs(one == other, self.described(one) == self.described(other))
            self.assertIs(one != other, self.described(one) != self.described(other))

    def test_one_difference(self):
        part = part_at(STAIRS, (0, 0))
        self.assertEqual(part, part_at(STAIRS, (4, 4)))
        for other in (
            part_at(Carpet(["ccb"], shift=1), (0, 0)), part_at(Carpet(["baa"], shift=1), (1, 0)),
            part_at(Carpet(["aaab"], shift=1), (0, 0)), part_at(Carpet(["aab"], shift=-1), (0, 0)),
        ):
            self.assertNotEqual(part, other)

    def test_the_border_alone(self):
        one, other = part_at(Carpet(["aabb", "aabb", "bbbb"]), (0, 0)), part_at(Carpet(["aaaab"] + ["bbbbb"]), (0, 0))
        self.assertEqual(self.described(one)[:5], self.described(other)[:5])
        self.assertEqual((one.border, other.border), (8, 10))
        self.assertNotEqual(one, other)

    def test_values_of_other_kinds(self):
        part = part_at(STAIRS, (0, 0))
        for value in NO_PLACES + [Part, STAIRS, Net.whole(), self.described(part), unittest.mock.ANY]:
            self.assertIs(part == value, False)
            self.assertIs(part != value, True)


class Touching(unittest.TestCase):
    def test_all_pairs_of_neighbours(self):
        for carpet in SAMPLES + FEW:
            wanted = {
                tuple(sorted((carpet[place], carpet[near])))
                for place in carpet.net.cell() for near in around(place) if carpet[place] != carpet[near]
            }
            self.assertEqual(touching(carpet), sorted(wanted))

    def test_sorted(self):
        self.assertEqual(touching(Carpet(["cab"])), [("a", "b"), ("a", "c"), ("b", "c")])
        self.assertEqual(touching(Carpet(["zxzy"])), [("x", "z"), ("y", "z")])

    def test_one_colour(self):
        self.assertEqual(touching(Carpet(["a"])), [])

    def test_across_the_ends_of_the_cell(self):
        self.assertEqual(touching(Carpet(["abbc"])), [("a", "b"), ("a", "c"), ("b", "c")])
        self.assertEqual(touching(Carpet(["a", "b", "b", "c"])), [("a", "b"), ("a", "c"), ("b", "c")])
        self.assertEqual(touching(Carpet(["abcdefg"], shift=3)), sorted(
            {tuple(sorted(pair)) for k in range(7) for pair in ("abcdefg"[k] + "abcdefgabcdefg"[k + 1],
                                                                "abcdefg"[k] + "abcdefgabcdefg"[k + 4])}))

    def test_corners_do_not_touch(self):
        carpet = Carpet(["azbz", "zzzz"])
        self.assertEqual(touching(carpet), [("a", "z"), ("b", "z")])

    def test_the_list_is_new(self):
        touching(STAIRS).clear()
        self.assertEqual(touching(STAIRS), [("a", "b")])


class Repainting(unittest.TestCase):
    def test_all_parts_of_the_class(self):
        for carpet in FEW[::2] + [ISLANDS]:
            roots = flooded(carpet, 25)
            for place in list(carpet.net.cell())[:4]:
                for colour in "abz":
                    result = repainted(carpet, place, colour)
                    for other in square(3):
                        carried = any(
                            roots[x, y] == roots[other] for x, y in square(9) if carpet.net.reduced((x, y)) == place)
                        self.assertEqual(result[other], colour if carried else carpet[other])

    def test_examples(self):
        self.assertEqual(repainted(ISLANDS, (1, 1), "c"), Carpet(["bbbbb", "bcccb", "bcbcb"]))
        self.assertEqual(repainted(ISLANDS, (0, 0), "a"), Carpet(["a"]))
        self.assertEqual(repainted(Carpet(["aba", "bba"]), (0, 0), "a"), Carpet(["aba", "bba"]))
        self.assertEqual(repainted(Carpet(["abba"]), (0, 0), "c"), Carpet(["cbbc"]))
        self.assertEqual(repainted(Carpet(["acabb"], shift=1), (0, 0), "z"), Carpet(["zcabb"], shift=1))

    def test_far_places(self):
        for carpet in FEW:
            for place in FAR[:3]:
                self.assertEqual(repainted(carpet, place, "q"), repainted(carpet, carpet.net.reduced(place), "q"))
                self.assertEqual(repainted(carpet, place, "q")[place], "q")

    def test_the_carpet_is_not_changed(self):
        shown = repr(ISLANDS)
        repainted(ISLANDS, (1, 1), "c")
        self.assertEqual(repr(ISLANDS), shown)

    def test_other_values(self):
        for value in NO_PLACES:
            assert_raises(self, InvalidPlace, "value", value, repainted, Carpet(["ab"]), value, "a")
            assert_raises(self, InvalidPlace, "value", value, repainted, Carpet(["ab"]), value, "A")
        for value in NO_COLOURS:
            assert_raises(self, InvalidColour, "value", value, repainted, Carpet(["ab"]), (BIG, 0), value)


class Paths(unittest.TestCase):
    def steps(self, carpet, first, radius):
        """The least number of places from the first one to each place of a square, within this square."""
        found = {first: 1}
        waiting = [first]
        for place in waiting:
            for near in around(place):
                inside = max(abs(near[0]), abs(near[1])) <= radius
                if inside and near not in found and carpet[near] == carpet[first]:
                    found[near] = found[place] + 1
                    waiting.append(near)
        return found

    def check(self, carpet, first, second, wanted):
        found = path(carpet, first, second)
        if wanted is None:
            self.assertIsNone(found)
        else:
            self.assertIsInstance(found, list)
            self.assertEqual(len(found), wanted)
            self.assertEqual((found[0], found[-1]), (first, second))
            for place, near in zip(found, found[1:]):
                self.assertIn(near, around(place))
            self.assertEqual({carpet[place] for place in found}, {carpet[first]})
            self.assertIs(is_path(carpet, first, second, found), True)

    def test_the_fewest_places(self):
        for carpet in FEW + [ISLANDS]:
            for first in ((0, 0), (1, 1)):
                found = self.steps(carpet, first, 20)
                for second in square(5):
                    self.check(carpet, first, second, found.get(second))

    def test_a_snake(self):
        found = self.steps(SNAKE, (8, 1), 25)
        for second in square(15)[::7]:
            if second in found:
                self.check(SNAKE, (8, 1), second, found[second])
        self.check(SNAKE, (8, 1), (8, 5), 21)

    def test_far_places(self):
        self.check(STAIRS, (BIG, BIG), (BIG + 50, BIG + 50), 101)
        self.check(Carpet(["a"]), (-BIG, BIGGER), (-BIG - 60, BIGGER + 70), 131)
        self.check(SNAKE, (8 + 10 * BIG, 1 - 6 * BIG), (8 + 10 * BIG, 5 - 6 * BIG), 21)

    def test_one_place(self):
        self.assertEqual(path(Carpet(["ab"]), (BIG, 3), (BIG, 3)), [(BIG, 3)])

    def test_places_that_are_not_joined(self):
        for first, second in (((0, 0), (2, 0)), ((0, 0), (3, 0)), ((0, 0), (BIG, 0)), ((2, 0), (5, 0))):
            self.assertIsNone(path(STAIRS, first, second))

    def test_the_limit(self):
        for carpet, end in (
            (Carpet(["a"]), (199, 0)), (Carpet(["a"]), (-100, 99)), (Carpet(["a", "b"]), (-199, 0)),
            (Carpet(["aab"]), (1, -198)),
        ):
            self.check(carpet, (0, 0), end, 200)
            x, y = end
            beyond = (x + (x > 0) - (x < 0), y) if carpet[x + 1, y] == carpet[x, y] else (x, y - 1)
            assert_raises(self, LimitExceeded, "limit", 200, path, carpet, (0, 0), beyond)

    def test_far_beyond_the_limit(self):
        assert_raises(self, LimitExceeded, "limit", 200, path, Carpet(["a"]), (0, 0), (BIG, BIGGER))
        assert_raises(self, LimitExceeded, "limit", 200, path, STAIRS, (0, 0), (BIG, BIG))
        assert_raises(self, LimitExceeded, "limit", 200, path, Carpet(["a"]), (0, 0), (100, 100))

    def wall(self, length):
        """Two rows with a wall between them, which ends so many places to the right of (0, 1)."""
        row = "a" * (length + 1) + "b"
        return Carpet.on(Net(length + 2, 0, 4), row + "b" * length + "ab" + row + "b" * (length + 2))

    def test_ways_around(self):
        for length in (1, 2, 30, 96):
            for x in (0, 1, length // 2):
                self.check(self.wall(length), (0, 0), (x, 2), 2 * length - x + 3)
        self.check(Carpet(["a" * 100, "b" * 99 + "a", "a" * 100, "b" * 100]), (0, 0), (2, 2), 7)

    def test_the_limit_on_a_way_around(self):
        self.check(self.wall(99), (0, 0), (1, 2), 200)
        assert_raises(self, LimitExceeded, "limit", 200, path, self.wall(99), (0, 0), (0, 2))
        assert_raises(self, LimitExceeded, "limit", 200, path, self.wall(400), (0, 0), (0, 2))

    def test_other_values(self):
        for value in NO_PLACES:
            assert_raises(self, InvalidPlace, "value", value, path, Carpet(["a"]), value, (0, 0))
            assert_raises(self, InvalidPlace, "value", value, path, Carpet(["a"]), (0, 0), value)
            assert_raises(self, InvalidPlace, "value", value, path, Carpet(["a"]), (BIG, 0), value)


class WhetherPaths(unittest.TestCase):
    def test_longer_ones_and_places_met_again(self):
        carpet = Carpet(["a", "a", "b"])
        for value in (
            [(0, 0), (1, 0)], [(0, 0), (0, 1), (1, 1), (1, 0)], [(0, 0), (1, 0), (0, 0), (1, 0)],
            [(0, 0), (-1, 0), (0, 0), (0, 1), (0, 0), (1, 0)],
        ):
            self.assertIs(is_path(carpet, (0, 0), (1, 0), value), True)
        self.assertIs(is_path(carpet, (0, 0), (0, 0), [(0, 0), (1, 0), (0, 0)]), True)
        self.assertIs(is_path(carpet, (0, 0), (0, 0), [(0, 0)]), True)

    def test_more_places_than_the_limit_of_path(self):
        walk = [(k, 0) for k in range(1000)]
        self.assertIs(is_path(Carpet(["a"]), (0, 0), (999, 0), walk), True)
        self.assertIs(is_path(Carpet(["a"]), (0, 0), (998, 0), walk), False)
        far = [(BIG + k, BIG) for k in range(3)]
        self.assertIs(is_path(Carpet(["a"]), (BIG, BIG), (BIG + 2, BIG), far), True)

    def test_wrong_lists_of_places(self):
        carpet = Carpet(["a", "a", "b"])
        for value in (
            [], [(0, 0)], [(1, 0)], [(1, 0), (0, 0)], [(0, 0), (0, 0), (1, 0)], [(0, 0), (1, 0), (1, 0)],
            [(0, 0), (0, -1), (1, -1), (1, 0)], [(0, 0), (1, 1), (1, 0)], [(0, 0), (2, 0), (1, 0)],
            [(0, 0), (1, 0), (2, 0)], [(-1, 0), (0, 0), (1, 0)], [(0, 0), (0, 1), (1, 0)],
            [(0, 0), (0, 3), (1, 3), (1, 0)],
        ):
            self.assertIs(is_path(carpet, (0, 0), (1, 0), value), False)

    def test_all_places_of_the_wrong_colour_between(self):
        self.assertIs(is_path(Carpet(["aba"]), (0, 0), (2, 0), [(0, 0), (1, 0), (2, 0)]), False)
        self.assertIs(is_path(Carpet(["ab"]), (0, 0), (1, 0), [(0, 0), (1, 0)]), False)

    def test_any_other_value(self):
        carpet = Carpet(["a"])
        values = NO_PLACES + [((0, 0), (1, 0)), {(0, 0): 1}, "ab", iter([(0, 0)]), (0, 0), Part, Stubborn()]
        for value in values:
            self.assertIs(is_path(carpet, (0, 0), (0, 0), value), False)
        for value in NO_PLACES:
            for places in ([value], [(0, 0), value], [(0, 0), value, (0, 0)], [value, (0, 0)]):
                self.assertIs(is_path(carpet, (0, 0), (0, 0), places), False)

    def test_the_list_is_not_changed(self):
        value = [(0, 0), (1, 0)]
        is_path(Carpet(["a"]), (0, 0), (1, 0), value)
        self.assertEqual(value, [(0, 0), (1, 0)])

    def test_other_places(self):
        for value in NO_PLACES:
            assert_raises(self, InvalidPlace, "value", value, is_path, Carpet(["a"]), value, (0, 0), [])
            assert_raises(self, InvalidPlace, "value", value, is_path, Carpet(["a"]), (0, 0), value, None)


class Changes(unittest.TestCase):
    def test_moved_carpets(self):
        for carpet in FEW[::2] + [STAIRS, ISLANDS]:
            for motion in MOTIONS:
                image = carpet * motion
                self.assertEqual(touching(image), touching(carpet))
                for first, second in (((0, 0), (1, 0)), ((0, 0), (3, 3)), ((1, 2), (BIG, BIG))):
                    self.assertIs(are_joined(image, motion(first), motion(second)), are_joined(carpet, first, second))
                for place in ((0, 0), (1, 1), (BIG, -BIGGER)):
                    self.check(part_at(carpet, place), part_at(image, motion(place)), motion.kind)
                    self.assertEqual(repainted(image, motion(place), "q"), repainted(carpet, place, "q") * motion)

    def check(self, part, image, kind):
        """A moved part keeps all but its start and its basis, which is turned with it."""
        self.assertEqual(
            (image.colour, image.places, image.size, image.border), (part.colour, part.places, part.size, part.border))
        self.assertEqual(image.net, None if part.net is None else part.net * Motion(kind))
        if len(part.basis) == 1:
            x, y = Motion(kind)(part.basis[0])
            self.assertIn(image.basis, (((x, y),), ((-x, -y),)))
        else:
            self.assertEqual(len(image.basis), len(part.basis))

    def test_exchanged_colours(self):
        for carpet in FEW + SAMPLES:
            other = recoloured(carpet, EXCHANGE)
            wanted = sorted(tuple(sorted((EXCHANGE[one], EXCHANGE[two]))) for one, two in touching(carpet))
            self.assertEqual(touching(other), wanted)
            for part, image in zip(parts(carpet), parts(other)):
                self.assertEqual(image.colour, EXCHANGE[part.colour])
                self.assertEqual((image.start, image.places, image.basis), (part.start, part.places, part.basis))
                self.assertEqual((image.size, image.border, image.net), (part.size, part.border, part.net))


if __name__ == "__main__":
    unittest.main()
