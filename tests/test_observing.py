import inspect
import itertools
import unittest
import unittest.mock

import carpets.observing
from carpets.carpets import Carpet
from carpets.errors import InvalidNumber, InvalidObservation, InvalidPlace, LimitExceeded
from carpets.motions import Motion
from carpets.nets import Net, nets_of_size
from carpets.observing import (
    colourings, explaining, fitting_nets, least_fitting, open_places, sure_colour, telling_place,
)
from carpets.weaving import recoloured
from models import BIG, BIGGER, EXCHANGE, FAR, MOTIONS, SAMPLES, all_nets, all_texts, marks, square
from odd_values import NO_COLOURS, NO_INTEGERS, NO_PLACES, Stubborn, assert_raises

SEEN = [((0, 0), "a"), ((1, 0), "b"), ((4, 1), "a")]

# Lists of observations of different kinds: none, one, opposed ones, far ones, and the same one several times.
LISTS = [
    [], [((0, 0), "a")], [((5, -3), "b")], SEEN, [((0, 0), "a"), ((0, 0), "b")], [((1, 1), "b")] * 3,
    [((0, 0), "a"), ((3, 0), "b"), ((0, 2), "b")], [((0, 0), "a"), ((6, 6), "b"), ((-5, 2), "c")],
    [((BIG, BIGGER), "a"), ((-BIG, 5), "b"), ((BIG, -BIGGER), "c")], [((x, 0), "ab"[x % 2]) for x in range(7)],
    [((x, y), "abc"[(x + y) % 3]) for x in range(3) for y in range(3)], [((0, 0), "c"), ((2, 2), "c")],
]
NETS = [net for size in range(1, 5) for net in all_nets(size)]

CALLS = {
    "explaining": lambda seen: explaining([Carpet(["a"])], seen),
    "fitting_nets": lambda seen: fitting_nets(seen, 0),
    "sure_colour": lambda seen: sure_colour(Net(1, 0, 1), seen, None),
    "open_places": lambda seen: open_places(Net(2001, 0, 1), seen),
    "least_fitting": lambda seen: least_fitting(seen),
    "colourings": lambda seen: next(colourings(Net(2001, 0, 1), 0, seen)),
}


def explained(net, seen, letters="abc"):
    """The texts on the cell of a net of the carpets that explain all observations, tried one by one."""
    return [
        text for text in all_texts(net.size, letters)
        if all(Carpet.on(net, text)[place] == colour for place, colour in seen)
    ]


TEXTS = [[explained(net, seen) for seen in LISTS] for net in NETS]


class Examples(unittest.TestCase):
    def test_examples_of_the_document(self):
        found = list(colourings(Net(2, 0, 1), 3, SEEN))
        self.assertEqual(
            repr((fitting_nets(SEEN, 2), least_fitting(SEEN), open_places(Net(3, 0, 1), SEEN), found)),
            "([Net(2, 0, 1)], 2, [(0, 0), (1, 0), (2, 0)], [Carpet(['ab'], shift=0)])",
        )
        self.assertEqual(telling_place([Carpet(["aab"]), Carpet(["ab"])]), ((1, 0), 1))

    def test_arguments_by_name(self):
        self.assertEqual(explaining(observations=SEEN, candidates=[Carpet(["ab"])]), [0])
        self.assertEqual(fitting_nets(size=2, observations=SEEN), [Net(2, 0, 1)])
        self.assertEqual(sure_colour(place=(7, 0), observations=SEEN, net=Net(2, 0, 1)), "b")
        self.assertEqual(open_places(observations=SEEN, net=Net(2, 0, 1)), [])
        self.assertEqual(least_fitting(observations=SEEN), 2)
        found = list(colourings(observations=SEEN, colours=3, net=Net(2, 0, 1)))
        self.assertEqual(found, [Carpet(["ab"])])
        self.assertEqual(telling_place(candidates=[Carpet(["a"])]), ((0, 0), 1))

    def test_parameters(self):
        for call, wanted in (
            (explaining, "(candidates, observations)"), (fitting_nets, "(observations, size)"),
            (sure_colour, "(net, observations, place)"), (open_places, "(net, observations)"),
            (least_fitting, "(observations)"), (colourings, "(net, colours, observations)"),
            (telling_place, "(candidates)"),
        ):
            self.assertEqual(str(inspect.signature(call)), wanted)
            self.assertEqual(call.__module__, "carpets.observing")


class WrongObservations(unittest.TestCase):
    def test_all_kinds_of_values(self):
        values = [None, True, 0, "ab", "a", (), ((0, 0),), ((0, 0), "a", "b"), [(0, 0), "a"], {(0, 0): "a"}, Stubborn()]
        values += [(value, "a") for value in NO_PLACES] + [((0, 0), value) for value in NO_COLOURS]
        for value in values:
            for name, call in CALLS.items():
                with self.subTest(name=name):
                    assert_raises(self, InvalidObservation, "index", 0, call, [value])
                    assert_raises(self, InvalidObservation, "index", 2, call, SEEN[:2] + [value, SEEN[2]])

    def test_the_first_one(self):
        for call in CALLS.values():
            assert_raises(self, InvalidObservation, "index", 1, call, [SEEN[0], None, "x", ()])
            assert_raises(self, InvalidObservation, "index", 2000, call, SEEN[:1] * 2000 + [None])

    def test_opposed_observations_before_a_wrong_one(self):
        for call in CALLS.values():
            assert_raises(self, InvalidObservation, "index", 2, call, [((0, 0), "a"), ((0, 0), "b"), None])

    def test_candidates_that_do_not_matter(self):
        assert_raises(self, InvalidObservation, "index", 0, explaining, [], [None])
        assert_raises(self, InvalidObservation, "index", 1, explaining, [Carpet(["b"])], [((0, 0), "a"), None])

    def test_the_observations_are_not_changed(self):
        seen = list(SEEN)
        explaining([Carpet(["a"])], seen), fitting_nets(seen, 3), sure_colour(Net(2, 0, 1), seen, (0, 0))
        open_places(Net(2, 0, 1), seen), least_fitting(seen), list(colourings(Net(2, 0, 1), 2, seen))
        self.assertEqual(seen, SEEN)


class Explaining(unittest.TestCase):
    def test_all_samples(self):
        for seen in LISTS:
            wanted = [k for k, carpet in enumerate(SAMPLES) if all(carpet[place] == one for place, one in seen)]
            self.assertEqual(explaining(SAMPLES, seen), wanted)

    def test_no_candidates_and_no_observations(self):
        self.assertEqual(explaining([], SEEN), [])
        self.assertEqual(explaining([], []), [])
        self.assertEqual(explaining(SAMPLES, []), list(range(len(SAMPLES))))

    def test_far_places(self):
        for carpet in SAMPLES:
            seen = [(place, carpet[place]) for place in FAR]
            found = explaining(SAMPLES, seen)
            self.assertIn(SAMPLES.index(carpet), found)
            for index in found:
                self.assertEqual([SAMPLES[index][place] for place in FAR], [carpet[place] for place in FAR])

    def test_equal_candidates(self):
        self.assertEqual(explaining([Carpet(["ab"]), Carpet(["ba"]), Carpet(["ab"])], SEEN), [0, 2])


class FittingNets(unittest.TestCase):
    def test_by_trying_all_texts(self):
        for size in range(1, 5):
            for index, seen in enumerate(LISTS):
                wanted = [net for net, texts in zip(NETS, TEXTS) if net.size == size and texts[index]]
                self.assertEqual(fitting_nets(seen, size), wanted)

    def test_the_order_of_nets_of_size(self):
        for size in (6, 12, 30, 64):
            nets = list(nets_of_size(size))
            self.assertEqual(fitting_nets([], size), nets)
            found = fitting_nets(SEEN, size)
            self.assertEqual(found, [net for net in nets if net in found])

    def test_exactly_the_nets_that_lead_to_no_other_colour(self):
        seen = [((0, 0), "a"), ((7, 3), "b"), ((BIG, BIGGER), "c"), ((5, -2), "a")]
        for size in (5, 8, 12, 25):
            wanted = [
                net for net in all_nets(size)
                if not any((x - u, y - v) in net for (x, y), one in seen for (u, v), two in seen if one != two)
            ]
            self.assertEqual(fitting_nets(seen, size), wanted)

    def test_the_net_of_a_carpet_fits_it(self):
        for carpet in SAMPLES + [marks(Net(5, 2, 3))]:
            seen = [(place, carpet[place]) for place in square(4) + FAR]
            self.assertIn(carpet.net, fitting_nets(seen, len(carpet)))
            for net in fitting_nets(seen, len(carpet)):
                self.assertTrue(all(carpet[place] == carpet[net.reduced(place)] for place in square(1)))

    def test_the_limit_of_the_size(self):
        self.assertEqual(len(fitting_nets([], 10000)), len(list(nets_of_size(10000))))
        found = fitting_nets([((0, 0), "a"), ((1, 0), "b"), ((0, 1), "b")], 10000)
        self.assertEqual(found, [
            net for net in nets_of_size(10000) if (0, 1) not in net and (1, 0) not in net])
        for value in NO_INTEGERS + [0, -1, 10001, BIG, (1, 1)]:
            for seen in ([], SEEN, LISTS[4]):
                assert_raises(self, InvalidNumber, "value", value, fitting_nets, seen, value)

    def test_opposed_observations(self):
        for size in (1, 7, 100):
            self.assertEqual(fitting_nets([((2, 2), "a"), ((2, 2), "b")], size), [])

    def test_many_observations(self):
        seen = [((k * k, 5 * k), "a") for k in range(1999)] + [((0, 1), "b")]
        wanted = [net for net in nets_of_size(12) if not any((x, y - 1) in net for (x, y), _ in seen[:-1])]
        self.assertEqual(fitting_nets(seen, 12), wanted)


class SureColours(unittest.TestCase):
    def wanted(self, net, texts, place):
        found = {Carpet.on(net, text)[place] for text in texts}
        return found.pop() if len(found) == 1 else None

    def test_by_trying_all_texts(self):
        for net, lists in zip(NETS, TEXTS):
            for seen, texts in zip(LISTS, lists):
                cell = list(net.cell())
                wanted = [self.wanted(net, texts, place) for place in cell]
                self.assertEqual([sure_colour(net, seen, place) for place in cell], wanted)
                self.assertEqual(open_places(net, seen), [one for one, sure in zip(cell, wanted) if sure is None])

    def test_far_places_and_nets(self):
        net = Net(BIG, 77, BIGGER)
        seen = [((5, 7), "q"), ((BIG + 6, 7), "r")]
        self.assertEqual(sure_colour(net, seen, (5 + 3 * BIG + 77, 7 + BIGGER)), "q")
        self.assertEqual(sure_colour(net, seen, (6, 7)), "r")
        self.assertIsNone(sure_colour(net, seen, (7, 7)))
        self.assertIsNone(sure_colour(net, seen + [((6 - 77, 7 - BIGGER), "s")], (6, 7)))
        for place in FAR:
            self.assertEqual(sure_colour(Net(3, 1, 2), [(place, "k")], place), "k")

    def test_no_observations(self):
        self.assertIsNone(sure_colour(Net(1, 0, 1), [], (0, 0)))
        self.assertEqual(open_places(Net(3, 1, 2), []), list(Net(3, 1, 2).cell()))

    def test_no_carpet_explains_them(self):
        seen = [((0, 0), "a"), ((2, 0), "b"), ((1, 0), "c")]
        self.assertIsNone(sure_colour(Net(2, 0, 1), seen, (1, 0)))
        self.assertEqual(open_places(Net(2, 0, 1), seen), [(0, 0), (1, 0)])

    def test_other_places(self):
        for value in NO_PLACES:
            for seen in ([], SEEN, LISTS[4]):
                assert_raises(self, InvalidPlace, "value", value, sure_colour, Net(2, 0, 1), seen, value)

    def test_the_limit_of_open_places(self):
        for net in (Net(2000, 3, 1), Net(1, 0, 2000), Net(40, 7, 50)):
            found = open_places(net, [((0, 0), "a"), ((BIG, BIGGER), "b")])
            wanted = [place for place in net.cell() if place not in ((0, 0), net.reduced((BIG, BIGGER)))]
            self.assertEqual(found, wanted)
        for net in (Net(2001, 3, 1), Net(1, 0, 2001), Net(3, 1, 667), Net(BIG, 0, 1)):
            assert_raises(self, LimitExceeded, "limit", 2000, open_places, net, SEEN)

    def test_the_list_is_new(self):
        open_places(Net(3, 0, 1), SEEN).clear()
        self.assertEqual(open_places(Net(3, 0, 1), SEEN), [(0, 0), (1, 0), (2, 0)])


class Least(unittest.TestCase):
    def test_the_first_size_with_a_fitting_net(self):
        for seen in LISTS:
            sizes = [size for size in range(1, 61) if fitting_nets(seen, size)]
            self.assertEqual(least_fitting(seen), sizes[0] if sizes else None)

    def test_no_observations_and_one_colour(self):
        self.assertEqual(least_fitting([]), 1)
        self.assertEqual(least_fitting([((BIG, k), "z") for k in range(2000)]), 1)

    def test_opposed_observations(self):
        self.assertIsNone(least_fitting([((0, 0), "a"), ((0, 0), "b")]))
        self.assertIsNone(least_fitting([((k, k), "a") for k in range(500)] + [((BIG, 5), "c"), ((BIG, 5), "d")]))
        self.assertIsNone(least_fitting([((k, 0), "ab"[k == 0]) for k in range(500)] + [((0, 0), "a")]))

    def test_sizes_up_to_the_limit(self):
        # A row with a mark at its beginning fits no net with fewer places than the row, if all rows are like it.
        for size in (2, 7, 59, 60):
            seen = [((x, y), "b" if x == 0 else "a") for x in range(size) for y in range(30)]
            self.assertEqual(least_fitting(seen), size)
        for size in (61, 62, 66):
            seen = [((x, y), "b" if x == 0 else "a") for x in range(size) for y in range(30)]
            assert_raises(self, LimitExceeded, "limit", 60, least_fitting, seen)

    def test_opposed_far_beyond_the_limit(self):
        seen = [((x, y), "b" if x == 0 else "a") for x in range(66) for y in range(30)]
        self.assertIsNone(least_fitting(seen + [((0, 0), "a")]))


class Colourings(unittest.TestCase):
    def test_by_trying_all_texts(self):
        for net, seen in itertools.product(NETS, LISTS):
            for colours in (1, 2, 3):
                wanted = explained(net, seen, "abc"[:colours])
                found = list(colourings(net, colours, seen))
                self.assertEqual(["".join(one[place] for place in net.cell()) for one in found], wanted)
                self.assertEqual(found, [Carpet.on(net, text) for text in wanted])

    def test_one_colour(self):
        self.assertEqual(list(colourings(Net(3, 1, 2), 1, [])), [Carpet(["a"])])
        self.assertEqual(list(colourings(Net(3, 1, 2), 1, [((0, 0), "b")])), [])

    def test_26_colours(self):
        found = list(colourings(Net(2, 0, 1), 26, [((1, 0), "q")]))
        self.assertEqual(found, [Carpet([letter + "q"]) for letter in "abcdefghijklmnopqrstuvwxyz"])

    def test_colours_that_are_not_among_the_first_ones(self):
        self.assertEqual(list(colourings(Net(2, 0, 1), 2, [((0, 0), "c")])), [])
        self.assertEqual(list(colourings(Net(1, 0, 1), 3, [((0, 0), "c")])), [Carpet(["c"])])

    def test_they_are_made_one_by_one(self):
        for net in (Net(2000, 3, 1), Net(1, 0, 2000), Net(40, 7, 50)):
            found = colourings(net, 26, [((0, 0), "b")])
            self.assertTrue(inspect.isgenerator(found))
            for end in ("aaa", "aab", "aac", "aad"):
                carpet = next(found)
                self.assertEqual("".join(carpet[place] for place in net.cell()), "b" + "a" * 1996 + end)

    def test_nothing_is_done_before_the_iteration(self):
        with unittest.mock.patch.object(carpets.observing, "Carpet") as made:
            found = colourings(Net(2, 0, 1), 2, [])
            self.assertEqual(made.on.call_count, 0)
            next(found)
            self.assertEqual(made.on.call_count, 1)
        for arguments in ((Net(2001, 0, 1), 0, [None]), (Net(2001, 0, 1), 0, []), (Net(2001, 0, 1), 1, [])):
            self.assertTrue(inspect.isgenerator(colourings(*arguments)))

    def test_other_numbers_of_colours(self):
        for value in NO_INTEGERS + [0, -1, 27, BIG, (1, 1)]:
            for seen in ([], SEEN, LISTS[4]):
                for net in (Net(2, 0, 1), Net(2001, 0, 1)):
                    assert_raises(self, InvalidNumber, "value", value, next, colourings(net, value, seen))

    def test_the_limit(self):
        for net in (Net(2001, 3, 1), Net(1, 0, 2001), Net(3, 1, 667), Net(BIG, 0, 1)):
            assert_raises(self, LimitExceeded, "limit", 2000, next, colourings(net, 1, SEEN))
            assert_raises(self, LimitExceeded, "limit", 2000, next, colourings(net, 26, LISTS[4]))

    def test_opposed_observations(self):
        self.assertEqual(list(colourings(Net(2, 0, 1), 3, [((0, 0), "a"), ((2, 7), "b")])), [])


class Telling(unittest.TestCase):
    def wanted(self, candidates):
        """The place and the number, by counting at all places of a cell that all carpets repeat."""
        net = candidates[0].net
        for carpet in candidates:
            net = net & carpet.net
        best = None
        for place in net.cell():
            letters = [carpet[place] for carpet in candidates]
            number = max(letters.count(letter) for letter in letters)
            if best is None or number < best[1]:
                best = (place, number)
        return best

    def test_by_counting(self):
        for number in (1, 2, 3):
            for candidates in list(itertools.product(SAMPLES, repeat=number))[::1 + number * number]:
                self.assertEqual(telling_place(list(candidates)), self.wanted(candidates))
        self.assertEqual(telling_place(SAMPLES[:9]), self.wanted(SAMPLES[:9]))

    def test_no_carpets(self):
        self.assertIsNone(telling_place([]))

    def test_equal_carpets(self):
        self.assertEqual(telling_place([Carpet(["ab"])] * 5), ((0, 0), 5))

    def test_the_first_place(self):
        self.assertEqual(telling_place([Carpet(["aa", "ab"]), Carpet(["aa", "aa"]), Carpet(["aa", "bb"])]), ((0, 1), 2))
        self.assertEqual(telling_place([Carpet(["aaa", "aba"]), Carpet(["aaa", "aab"])]), ((1, 1), 1))

    def test_many_carpets(self):
        candidates = [marks(Net(50, 3, 1)) + (k, 0) for k in range(2000)]
        self.assertEqual(telling_place(candidates), ((0, 0), 1960))

    def test_the_limit(self):
        row, column = marks(Net(100, 0, 1)), marks(Net(1, 0, 100))
        self.assertEqual(telling_place([row, column]), ((1, 0), 1))
        self.assertEqual(telling_place([marks(Net(2000, 0, 1)), marks(Net(1, 0, 5), "c", "b")]), ((0, 0), 1))
        for one, other in (
            (Net(73, 0, 1), Net(1, 0, 137)), (Net(101, 0, 1), Net(1, 0, 100)), (Net(1999, 1, 1), Net(1, 0, 2000)),
        ):
            assert_raises(self, LimitExceeded, "limit", 10000, telling_place, [marks(one), marks(other)])

    def test_the_list_is_not_changed(self):
        candidates = [Carpet(["ab"]), Carpet(["ba"])]
        telling_place(candidates)
        self.assertEqual(candidates, [Carpet(["ab"]), Carpet(["ba"])])


class Changes(unittest.TestCase):
    def test_moved_observations(self):
        for seen in LISTS:
            for motion in MOTIONS:
                moved = [(motion(place), colour) for place, colour in seen]
                self.assertEqual(least_fitting(moved), least_fitting(seen))
                for size in (3, 4, 6):
                    images = {(net * motion).numbers for net in fitting_nets(seen, size)}
                    self.assertEqual({net.numbers for net in fitting_nets(moved, size)}, images)
                for net in NETS[::3]:
                    for place in square(1):
                        wanted = sure_colour(net, seen, place)
                        self.assertEqual(sure_colour(net * motion, moved, motion(place)), wanted)

    def test_moved_candidates(self):
        for motion in MOTIONS:
            images = [carpet * motion for carpet in SAMPLES[:9]]
            self.assertEqual(telling_place(images)[1], telling_place(SAMPLES[:9])[1])
            for seen in LISTS:
                moved = [(motion(place), colour) for place, colour in seen]
                self.assertEqual(explaining(images, moved), explaining(SAMPLES[:9], seen))

    def test_exchanged_colours(self):
        images = [recoloured(carpet, EXCHANGE) for carpet in SAMPLES]
        for seen in LISTS:
            other = [(place, EXCHANGE[colour]) for place, colour in seen]
            self.assertEqual(explaining(images, other), explaining(SAMPLES, seen))
            self.assertEqual(fitting_nets(other, 6), fitting_nets(seen, 6))
            self.assertEqual(least_fitting(other), least_fitting(seen))
            for net in NETS:
                self.assertEqual(open_places(net, other), open_places(net, seen))
        self.assertEqual(telling_place(images[:9]), telling_place(SAMPLES[:9]))

    def test_a_turned_carpet_is_found_by_its_observations(self):
        for carpet in SAMPLES[:8]:
            image = carpet * Motion("left", (BIG, -BIGGER))
            seen = [(place, image[place]) for place in square(3)]
            self.assertIn(image, list(colourings(image.net, 4, seen)))


if __name__ == "__main__":
    unittest.main()
