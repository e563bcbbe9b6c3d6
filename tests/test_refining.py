import inspect
import itertools
import unittest

from carpets.carpets import Carpet
from carpets.errors import InvalidNumber, LimitExceeded
from carpets.motions import Motion
from carpets.nets import Net
from carpets.refining import is_finer, merged, paired, refinement
from carpets.weaving import recoloured
from models import BIG, BIGGER, FAR, SAMPLES, all_nets, all_texts, marks
from odd_values import assert_raises

LETTERS = "abcdefghijklmnopqrstuvwxyz"
BEYOND = (Carpet(["aab"]), marks(Net(1, 0, 667)))
LIMIT = (Carpet(["a" * 39 + "b"]), marks(Net(1, 0, 50)))

SMALL = [Carpet.on(net, text) for size in range(1, 4) for net in all_nets(size) for text in all_texts(size, "abc")]
SQUARE = list(itertools.product(range(6), repeat=2))


def common_cell(carpets):
    """The places of a square that meets every place of some carpets up to shifts that keep all of them."""
    common = 1
    for carpet in carpets:
        common *= len(carpet)
    side = min(common, 24)
    return list(itertools.product(range(side), repeat=2))


def same_up_to_letters(one, other):
    """Whether two carpets have equal colours at the same pairs of places."""
    return is_finer(one, other) and is_finer(other, one)


class Examples(unittest.TestCase):
    def test_examples_of_the_document(self):
        one, other = Carpet(["abcd"]), Carpet(["aabc"])
        pair = paired(Carpet(["ab"]), Carpet(["a", "b"]))
        self.assertEqual(
            repr((refinement(one, other), refinement(other, one), pair.rows)),
            "({'a': 'a', 'b': 'a', 'c': 'b', 'd': 'c'}, None, ['ac', 'bd'])",
        )
        self.assertEqual(
            repr((merged(Carpet(["abc"]), Carpet(["aab"])),
                  merged(Carpet(["abcd"]), Carpet(["aabb"]), Carpet(["abac"])))),
            "(Carpet(['aab'], shift=0), Carpet(['a'], shift=0))",
        )

    def test_arguments_by_name(self):
        one, other = Carpet(["abcd"]), Carpet(["aabc"])
        self.assertIsNone(refinement(other=one, one=other))
        self.assertIs(is_finer(other=other, one=one), True)

    def test_parameters(self):
        self.assertEqual(str(inspect.signature(refinement)), "(one, other)")
        self.assertEqual(str(inspect.signature(is_finer)), "(one, other)")
        self.assertEqual(str(inspect.signature(paired)), "(*carpets)")
        self.assertEqual(str(inspect.signature(merged)), "(*carpets)")


class Refinements(unittest.TestCase):
    def wanted(self, one, other):
        """The dict by looking at all places of a square of which both carpets repeat the colours."""
        table = {}
        for place in SQUARE:
            table.setdefault(one[place], set()).add(other[place])
        if any(len(images) > 1 for images in table.values()):
            return None
        return {colour: min(images) for colour, images in table.items()}

    def test_small_carpets(self):
        # Nets of at most 3 places are kept by (6, 0) and (0, 6).
        for one, other in itertools.product(SMALL[::2], SMALL[1::2]):
            wanted = self.wanted(one, other)
            self.assertEqual(refinement(one, other), wanted)
            self.assertIs(is_finer(one, other), wanted is not None)

    def test_the_table_recolours_one_to_the_other(self):
        found = 0
        for one, other in itertools.product(SAMPLES, repeat=2):
            table = refinement(one, other)
            if table is not None:
                found += 1
                self.assertEqual("".join(sorted(table)), one.colours)
                self.assertEqual("".join(sorted(set(table.values()))), other.colours)
                self.assertEqual(recoloured(one, table), other)
                for place in FAR:
                    self.assertEqual(table[one[place]], other[place])
        self.assertGreater(found, len(SAMPLES))

    def test_all_refine_themselves_and_carpets_of_one_colour(self):
        for carpet in SAMPLES:
            self.assertEqual(refinement(carpet, carpet), {colour: colour for colour in carpet.colours})
            self.assertEqual(refinement(carpet, Carpet(["z"])), {colour: "z" for colour in carpet.colours})

    def test_equal_letters_mean_nothing(self):
        self.assertEqual(refinement(Carpet(["ab"]), Carpet(["ba"])), {"a": "b", "b": "a"})
        self.assertIsNone(refinement(Carpet(["ab"]), Carpet(["a", "b"])))
        self.assertIsNone(refinement(Carpet(["a"]), Carpet(["ab"])))

    def test_the_dict_is_new(self):
        one, other = Carpet(["abcd"]), Carpet(["aabc"])
        refinement(one, other).clear()
        self.assertEqual(refinement(one, other), {"a": "a", "b": "a", "c": "b", "d": "c"})

    def test_the_limit(self):
        one, other = LIMIT
        self.assertEqual((refinement(one, other), is_finer(one, other)), (None, False))
        great = marks(Net(40, 3, 50))
        self.assertEqual(refinement(great, great), {"a": "a", "b": "b"})
        for one, other in (BEYOND, BEYOND[::-1], (marks(Net(1999, 1, 1)), marks(Net(1, 0, 2000)))):
            assert_raises(self, LimitExceeded, "limit", 2000, refinement, one, other)
            assert_raises(self, LimitExceeded, "limit", 2000, is_finer, one, other)


class Pairs(unittest.TestCase):
    def check(self, carpets):
        result = paired(*carpets)
        places = common_cell(carpets)
        words = {place: tuple(carpet[place] for carpet in carpets) for place in places}
        names = sorted(set(words.values()))
        for place in places:
            self.assertEqual(result[place], LETTERS[names.index(words[place])])

    def test_the_tuples_in_ascending_order(self):
        for carpets in itertools.product(SMALL[::5], repeat=2):
            self.check(carpets)
        for carpets in list(itertools.product(SAMPLES[:8], repeat=3))[::7]:
            self.check(carpets)
        for carpet in SAMPLES:
            self.check([carpet])

    def test_one_carpet(self):
        self.assertEqual(paired(Carpet(["zxz", "yyz"])), Carpet(["cac", "bbc"]))

    def test_the_order_of_the_carpets(self):
        one, other = Carpet(["ab", "ab"]), Carpet(["zz", "yx"])
        self.assertEqual(paired(one, other).rows, ["bd", "ac"])
        self.assertEqual(paired(other, one).rows, ["cd", "ba"])

    def test_only_tuples_that_occur(self):
        self.assertEqual(paired(Carpet(["ac"]), Carpet(["ca"])), Carpet(["ab"]))

    def test_far_places(self):
        one, other = Carpet(["abc"], shift=1), Carpet(["ab", "cd"], shift=-BIG)
        result = paired(one, other)
        names = sorted({(one[place], other[place]) for place in itertools.product(range(12), repeat=2)})
        for place in FAR:
            self.assertEqual(result[place], LETTERS[names.index((one[place], other[place]))])

    def test_it_is_the_coarsest_common_refinement(self):
        for one, other in itertools.product(SAMPLES[:8], repeat=2):
            pair = paired(one, other)
            self.assertTrue(is_finer(pair, one) and is_finer(pair, other))
            for third in SAMPLES:
                if is_finer(third, one) and is_finer(third, other):
                    self.assertTrue(is_finer(third, pair))

    def test_no_carpets(self):
        assert_raises(self, InvalidNumber, "value", 0, paired)

    def test_the_limit_of_the_net(self):
        self.assertLessEqual(len(paired(*LIMIT)), 2000)
        self.assertEqual(paired(marks(Net(40, 3, 50))), marks(Net(40, 3, 50)))
        assert_raises(self, LimitExceeded, "limit", 2000, paired, *BEYOND)
        assert_raises(self, LimitExceeded, "limit", 2000, paired, Carpet(["ab"]), Carpet(["z"]), *BEYOND)

    def test_the_limit_of_the_colours(self):
        one, two = Carpet(["abcdefghijklm"]), Carpet(["a", "b"])
        self.assertEqual(paired(one, two).colours, LETTERS)
        self.assertEqual(paired(Carpet([LETTERS]), Carpet(["xy"] * 2)), Carpet([LETTERS]))
        assert_raises(self, LimitExceeded, "limit", 26, paired, Carpet(["abcdefghi"]), Carpet(["a", "b", "c"]))
        assert_raises(self, LimitExceeded, "limit", 26, paired, one, two, Carpet(["ab"]))

    def test_the_limit_of_the_net_comes_first(self):
        one = Carpet([LETTERS])
        assert_raises(self, LimitExceeded, "limit", 2000, paired, one, marks(Net(1, 0, 77)))
        assert_raises(self, LimitExceeded, "limit", 26, paired, one, marks(Net(1, 0, 76)))

    def test_many_carpets(self):
        carpets = [Carpet(["aab"]) + (k, 0) for k in range(2000)]
        self.assertTrue(same_up_to_letters(paired(*carpets), Carpet(["abc"])))


class Merges(unittest.TestCase):
    def linked(self, carpets, places):
        """A number for each place, equal exactly for places that a chain leads to, by spreading one by one."""
        found = {}
        for start in places:
            if start not in found:
                found[start] = start
                waiting = [start]
                while waiting:
                    place = waiting.pop()
                    for near in places:
                        if near not in found and any(carpet[place] == carpet[near] for carpet in carpets):
                            found[near] = start
                            waiting.append(near)
        return found

    def check(self, carpets, places):
        result = merged(*carpets)
        found = self.linked(carpets, places)
        least = {}
        for place, mark in found.items():
            least[mark] = min(least.get(mark, "z"), carpets[0][place])
        order = sorted(least, key=least.get)
        for place in places:
            self.assertEqual(result[place], LETTERS[order.index(found[place])])

    def test_chains_of_places(self):
        for carpets in itertools.product(SMALL[::4], repeat=2):
            self.check(carpets, SQUARE)
        for carpets in list(itertools.product(SMALL[::9], repeat=3))[::3]:
            self.check(carpets, SQUARE)

    def test_longer_chains(self):
        cell = [(x, 0) for x in range(12)]
        for rows in (
            ("abcdefghijkl", "aabbccddeeff"), ("abcdefghijkl", "abcdefabcdef", "aacdefghijkl"),
            ("lkjihgfedcba", "aabbccddeeff", "abbccddeeffa"), ("bcdaefghmlkj", "aabbcdefgghh", "abcdefghiijk"),
            ("zzyyxxwwvvuu", "abbcdefghhij"),
        ):
            self.check([Carpet([row]) for row in rows], cell)

    def test_the_sets_in_the_order_of_the_least_colour_of_the_first_carpet(self):
        self.assertEqual(merged(Carpet(["zyx"]), Carpet(["aab"])), Carpet(["bba"]))
        self.assertEqual(merged(Carpet(["dcba"]), Carpet(["abca"])), Carpet(["acba"]))
        self.assertEqual(merged(Carpet(["aab"]), Carpet(["zyx"])), Carpet(["aab"]))

    def test_one_carpet(self):
        self.assertEqual(merged(Carpet(["zxz", "yyz"])), Carpet(["cac", "bbc"]))
        self.assertEqual(merged(Carpet([LETTERS[::-1]])), Carpet([LETTERS[::-1]]))

    def test_far_places(self):
        one, other = Carpet(["abcdef"], shift=1), Carpet(["aabbcc"], shift=1)
        result = merged(one, other)
        for place in FAR:
            self.assertEqual(result[place], "aabbcc"["abcdef".index(one[place])])

    def test_it_is_the_finest_common_coarsening(self):
        for one, other in itertools.product(SAMPLES[:9], repeat=2):
            result = merged(one, other)
            self.assertTrue(is_finer(one, result) and is_finer(other, result))
            for third in SAMPLES:
                if is_finer(one, third) and is_finer(other, third):
                    self.assertTrue(is_finer(result, third))

    def test_no_carpets(self):
        assert_raises(self, InvalidNumber, "value", 0, merged)

    def test_the_limit(self):
        self.assertEqual(merged(*LIMIT), Carpet(["a"]))
        self.assertEqual(merged(marks(Net(40, 3, 50)), marks(Net(40, 3, 50), "x", "y")), marks(Net(40, 3, 50)))
        assert_raises(self, LimitExceeded, "limit", 2000, merged, *BEYOND)
        assert_raises(self, LimitExceeded, "limit", 2000, merged, Carpet(["ab"]), Carpet(["z"]), *BEYOND)

    def test_more_tuples_than_letters(self):
        one, other = Carpet([LETTERS]), Carpet(["a", "b"])
        self.assertEqual(merged(one, other), Carpet(["a"]))

    def test_many_carpets(self):
        carpets = [Carpet(["abcdefgh"]) + (k * 8, k) for k in range(2000)]
        self.assertEqual(merged(*carpets), Carpet(["abcdefgh"]))


class Changes(unittest.TestCase):
    def test_moved_carpets(self):
        motions = [Motion(kind, (2, -1)) for kind in Motion.KINDS] + [Motion.by((BIG, BIGGER))]
        for one, other in list(itertools.product(SAMPLES[2:9], repeat=2))[::3]:
            for motion in motions:
                self.assertEqual(refinement(one * motion, other * motion), refinement(one, other))
                self.assertEqual(paired(one * motion, other * motion), paired(one, other) * motion)
                self.assertEqual(merged(one * motion, other * motion), merged(one, other) * motion)

    def test_exchanged_colours(self):
        exchange = {"a": "d", "b": "z", "c": "a", "d": "c", "z": "b"}
        for one, other in itertools.product(SAMPLES[2:9], repeat=2):
            changed = recoloured(one, exchange)
            table = refinement(one, other)
            wanted = None if table is None else {exchange[colour]: table[colour] for colour in table}
            self.assertEqual(refinement(changed, other), wanted)
            self.assertTrue(same_up_to_letters(paired(changed, other), paired(one, other)))
            self.assertTrue(same_up_to_letters(merged(changed, other), merged(one, other)))

    def test_the_carpets_are_not_changed(self):
        carpets = [Carpet(["aab"]), Carpet(["ab"], shift=1)]
        shown = repr(carpets)
        refinement(*carpets), is_finer(*carpets), paired(*carpets), merged(*carpets)
        self.assertEqual(repr(carpets), shown)


if __name__ == "__main__":
    unittest.main()
