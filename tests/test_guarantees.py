"""The guarantees of the document, a class for each letter, over functions of several files."""

import itertools
import unittest

from carpets.carpets import Carpet
from carpets.comparing import difference, is_difference, shift_between
from carpets.console import Console
from carpets.errors import InvalidText, NothingToUndo, RunFailed
from carpets.looms import Loom
from carpets.motions import Motion
from carpets.nets import Net, nets_above, nets_of_size
from carpets.observing import (
    colourings, explaining, fitting_nets, least_fitting, open_places, sure_colour, telling_place,
)
from carpets.parts import are_joined, is_path, part_at, parts, path, repainted, touching
from carpets.patches import Patch, frequency, next_occurrence, occurrences, telling_size, windows
from carpets.refining import is_finer, merged, paired, refinement
from carpets.scaling import enlarged, sampled, shares
from carpets.texts import (
    picture, read_carpet, read_motion, read_net, read_place, share_table, show_carpet, show_motion, show_net,
    show_place,
)
from carpets.weaving import layered, masked, overlay, recoloured, uncovered
from models import (
    BIG, BIGGER, EXCHANGE, FAR, MOTIONS, SAMPLES, all_nets, all_texts, around, basis, cell_colour, colours_at, fits,
    flooded, kept_shifts, marks, share_of, square,
)


def drawn(number, letters="abc"):
    """Carpets of many nets, with letters by a plain row of numbers that look as if they were drawn."""
    state = 12345
    found = []
    for net in itertools.islice(itertools.cycle(net for size in range(1, 13) for net in all_nets(size)), number):
        text = ""
        for _ in range(net.size):
            state = (state * 1103515245 + 12345) % 2 ** 31
            text += letters[(state >> 16) % len(letters)]
        found.append((net, text))
    return found


DRAWN = drawn(140)
CARPETS = [Carpet.on(net, text) for net, text in DRAWN]
FEW = CARPETS[::7]


def alike(one, other):
    """Whether two carpets have equal colours at the same pairs of places."""
    return is_finer(one, other) and is_finer(other, one)


class Letter_a(unittest.TestCase):
    def test_exactly_the_net_of_the_shifts_that_keep_a_carpet(self):
        for (net, text), carpet in zip(DRAWN, CARPETS):
            wanted = kept_shifts(net, lambda place: cell_colour(net, text, place))
            self.assertEqual({place for place in net.cell() if place in carpet.net}, wanted)
            for dx, dy in basis(carpet.net):
                self.assertTrue(carpet.is_kept_by(Motion.by((BIG * dx, BIG * dy))))
                self.assertEqual(carpet[dx * BIG, dy * BIG], carpet[0, 0])

    def test_equal_exactly_with_equal_nets_and_texts(self):
        for one, other in itertools.product(FEW, CARPETS):
            wanted = (one.net, one.text) == (other.net, other.text)
            self.assertIs(one == other, wanted)
            place = difference(one, other)
            self.assertIs(place is None, wanted)
            if not wanted:
                self.assertNotEqual(one[place], other[place])
                self.assertIs(is_difference(one, other, place), True)

    def test_carpets_made_in_different_ways(self):
        for net, text in DRAWN[::5]:
            carpet = Carpet.on(net, text)
            for factor in (2, 3):
                fine = net.scaled(factor)
                again = Carpet.on(fine, "".join(carpet[place] for place in fine.cell()))
                self.assertEqual((again, again.net, again.text), (carpet, carpet.net, carpet.text))
                self.assertIsNone(difference(again, carpet))


class Letter_b(unittest.TestCase):
    def test_sums_common_parts_and_comparisons(self):
        nets = [net for size in range(1, 9) for net in all_nets(size)][::3] + [Net(BIG, 7, BIGGER), Net(BIGGER, 6, BIG)]
        for one, other in itertools.product(nets, repeat=2):
            both, either = one & other, one | other
            self.assertTrue(both.is_within(one) and both.is_within(other))
            self.assertTrue(one.is_within(either) and other.is_within(either))
            self.assertEqual(both.size * either.size, one.size * other.size)
            self.assertIs(one == other, one.is_within(other) and other.is_within(one))
            self.assertEqual(one.is_within(other), both == one)

    def test_all_nets_of_a_size_and_above_a_net(self):
        for size in range(1, 25):
            nets = list(nets_of_size(size))
            self.assertEqual(nets, all_nets(size))
            for net in nets[::5]:
                above = [other for number in range(1, size + 1) for other in all_nets(number) if net.is_within(other)]
                self.assertEqual(nets_above(net), above)

    def test_the_net_of_each_carpet_above_its_cell(self):
        for (net, _), carpet in zip(DRAWN, CARPETS):
            self.assertIn(carpet.net, nets_above(net))


class Letter_c(unittest.TestCase):
    def test_far_places_of_all_that_is_made_of_a_carpet(self):
        for carpet, other in zip(FEW, CARPETS[3::7]):
            great, small = enlarged(carpet, 3, 2), sampled(carpet, BIGGER, 5, start=(BIG, -7))
            under, changed = overlay(carpet, other, clear="a"), recoloured(carpet, EXCHANGE)
            turned, there = carpet * Motion("right", (BIG, 3)), carpet + (BIGGER, -BIG)
            for x, y in FAR + square(2):
                colour = carpet[x, y]
                self.assertEqual(great[3 * x + 2, 2 * y + 1], colour)
                self.assertEqual(small[x, y], carpet[BIG + BIGGER * x, 5 * y - 7])
                self.assertEqual(under[x, y], other[x, y] if colour == "a" else colour)
                self.assertEqual(changed[x, y], EXCHANGE[colour])
                self.assertEqual(turned[Motion("right", (BIG, 3))((x, y))], colour)
                self.assertEqual(there[x + BIGGER, y - BIG], colour)

    def test_one_after_another(self):
        for carpet in FEW:
            made = sampled(enlarged(carpet * Motion("swap", (5, BIG)), 2, 3), 2, 3, start=(1, 2))
            made = recoloured(recoloured(made * Motion("swap", (-BIG, -5)), EXCHANGE), {
                colour: letter for letter, colour in EXCHANGE.items()})
            self.assertEqual(made, carpet)

    def test_masked_and_layered(self):
        for one, other, third in zip(FEW, CARPETS[5::7], CARPETS[2::7]):
            if (one.net & other.net & third.net).size <= 2000:
                held = masked(one, other, shown="ab", blank="x")
                laid = layered(held, third, clear="x")
                for place in FAR + square(1):
                    wanted = one[place] if other[place] in "ab" else third[place]
                    self.assertEqual(laid[place], wanted)


class Letter_d(unittest.TestCase):
    def test_what_can_lie_below_is_found(self):
        for top, below in zip(CARPETS[:40:3], CARPETS[1:40:3]):
            for clear in "abc":
                result = overlay(top, below, clear=clear)
                found = uncovered(result, top, below.net, clear=clear)
                self.assertEqual(overlay(top, found, clear=clear), result)
                self.assertTrue(below.net.is_within(found.net))

    def test_none_exactly_if_there_is_none(self):
        for net in all_nets(2) + all_nets(3):
            carpets = [Carpet.on(net, text) for text in all_texts(net.size, "abc")]
            for top, result in itertools.product(CARPETS[:20:4], CARPETS[:12:3]):
                possible = [one for one in carpets if overlay(top, one, clear="b") == result]
                found = uncovered(result, top, net, clear="b")
                self.assertEqual(found, possible[0] if possible else None)


class Letter_e(unittest.TestCase):
    def test_coarsest_refinement_and_finest_coarsening(self):
        some = [carpet for carpet in CARPETS if len(carpet) in (2, 3, 4)][:12]
        for one, other in itertools.product(some, repeat=2):
            pair, union = paired(one, other), merged(one, other)
            self.assertTrue(is_finer(pair, one) and is_finer(pair, other))
            self.assertTrue(is_finer(one, union) and is_finer(other, union))
            for third in some:
                self.assertIs(is_finer(third, pair), is_finer(third, one) and is_finer(third, other))
                self.assertIs(is_finer(union, third), is_finer(one, third) and is_finer(other, third))

    def test_tables_between_them(self):
        for one, other in zip(CARPETS[:30], CARPETS[30:60]):
            if (one.net & other.net).size <= 2000:
                pair, union = paired(one, other), merged(one, other)
                for fine, coarse in ((pair, one), (pair, other), (one, union), (other, union)):
                    self.assertEqual(recoloured(fine, refinement(fine, coarse)), coarse)


class Letter_f(unittest.TestCase):
    def test_all_occurrences_and_their_share(self):
        for carpet in FEW:
            for rows in (["a"], ["ab"], ["a.b"], ["c", "."], ["b.", ".b"]):
                patch = Patch(rows)
                wanted = [place for place in carpet.net.cell() if fits(carpet, rows, place)]
                self.assertEqual(occurrences(carpet, patch), wanted)
                self.assertEqual(frequency(carpet, patch), share_of(len(wanted), len(carpet)))
                self.assertIs(patch in carpet, len(wanted) > 0)
                for x, y in FAR[:3]:
                    place = next_occurrence(carpet, patch, (x, y))
                    if place is not None:
                        self.assertIn(carpet.net.reduced(place), wanted)

    def test_shares_are_those_of_windows_of_one_place(self):
        for carpet in CARPETS:
            for colour, share in shares(carpet).items():
                self.assertEqual(frequency(carpet, Patch([colour])), share)
            numbers = {rows[0]: number for rows, number in windows(carpet, 1, 1)}
            self.assertEqual({one: share_of(numbers[one], len(carpet)) for one in numbers}, shares(carpet))

    def test_pictures_fit_where_they_were_taken(self):
        for carpet in FEW:
            for place in FAR[:3]:
                rows = picture(carpet, place, 7, 5)[::-1]
                self.assertIn(carpet.net.reduced(place), occurrences(carpet, Patch(rows)))
                self.assertEqual(next_occurrence(carpet, Patch(rows), place), place)


class Letter_g(unittest.TestCase):
    def test_joined_exactly_if_a_path_leads_from_one_to_the_other(self):
        for carpet in FEW[:14]:
            roots = flooded(carpet, 22)
            for place in square(4):
                joined = roots[0, 0] == roots[place]
                self.assertIs(are_joined(carpet, (0, 0), place), joined)
                steps = path(carpet, (0, 0), place)
                self.assertIs(steps is not None, joined)
                self.assertIs(is_path(carpet, (0, 0), place, steps), joined)

    def test_the_shifts_that_carry_a_part_to_itself(self):
        for carpet in CARPETS:
            for part in parts(carpet):
                x, y = part.start
                for dx, dy in part.basis:
                    self.assertIs(are_joined(carpet, (x, y), (x + BIG * dx, y + BIG * dy)), True)
                for dx, dy in basis(carpet.net):
                    carried = (dx, dy) in part.net if part.net is not None else self.on_line((dx, dy), part.basis)
                    self.assertIs(are_joined(carpet, (x, y), (x + dx, y + dy)), carried)

    def on_line(self, shift, steps):
        """Whether a shift is a multiple of the only shift of a basis, or none if there is no shift."""
        return any(shift == (k * x, k * y) for x, y in steps for k in range(-30, 31))

    def test_sizes_and_borders(self):
        for carpet in CARPETS:
            found = parts(carpet)
            self.assertEqual(sum(part.places for part in found), len(carpet))
            for part in found:
                self.assertEqual(part.size, part.places if part.basis == () else None)
            pairs = [(place, near) for place in carpet.net.cell() for near in around(place)]
            different = [1 for place, near in pairs if carpet[place] != carpet[near]]
            self.assertEqual(sum(part.border for part in found), len(different))

    def test_enlarged_parts(self):
        for carpet in FEW:
            great = enlarged(carpet, 2, 2)
            # Where all rows are equal, or all columns, the cell of the greater carpet is no greater block.
            if great.net == carpet.net.scaled(2):
                wanted = [(one.colour, 4 * one.places, 2 * one.border, len(one.basis)) for one in parts(carpet)]
                found = [(one.colour, one.places, one.border, len(one.basis)) for one in parts(great)]
                self.assertEqual(sorted(found), sorted(wanted))


class Letter_h(unittest.TestCase):
    def test_nets_and_colourings_that_fit(self):
        for carpet in FEW:
            seen = [(place, carpet[place]) for place in square(1) + FAR]
            nets = fitting_nets(seen, len(carpet))
            self.assertEqual(nets, [net for net in all_nets(len(carpet)) if list(colourings(net, 3, seen))[:1]])
            self.assertIn(carpet.net, nets)
            self.assertLessEqual(least_fitting(seen), len(carpet))

    def test_exactly_what_all_colourings_tell_is_sure(self):
        for net in all_nets(4):
            for seen in ([], [((0, 0), "b")], [((0, 0), "a"), ((BIG, BIGGER), "b")], [((1, 0), "c"), ((0, 1), "a")]):
                found = list(colourings(net, 3, seen))
                self.assertEqual(explaining(found, seen), list(range(len(found))))
                for place in net.cell():
                    colours = sorted({carpet[place] for carpet in found})
                    sure = colours[0] if len(colours) == 1 else None
                    self.assertEqual(sure_colour(net, seen, place), sure)
                    self.assertIs(place in open_places(net, seen), sure is None)

    def test_the_place_at_which_the_fewest_agree(self):
        for number in (2, 3, 5):
            candidates = FEW[:number]
            (x, y), most = telling_place(candidates)
            self.assertEqual(self.agreeing(candidates, (x, y)), most)
            for place in square(8) + FAR:
                self.assertGreaterEqual(self.agreeing(candidates, place), most)

    def agreeing(self, candidates, place):
        letters = colours_at_place(candidates, place)
        return max(letters.count(letter) for letter in letters)


def colours_at_place(candidates, place):
    """The colours of some carpets at a place."""
    return [colours_at(carpet, [place])[0] for carpet in candidates]


class Letter_i(unittest.TestCase):
    def test_a_loom_shows_the_actions_that_are_not_undone(self):
        net = Net(3, 1, 2)
        actions = [
            ("paint", (BIG, BIGGER), "b"), ("move", (BIG, -1)), ("cover", Carpet(["aab"], shift=2), "a"),
            ("fill", (1, 1), "c"), ("paint", (0, 1), "a"),
        ]
        for words in itertools.product("dur", repeat=5):
            loom, done, undone = Loom(net), [], []
            for number, word in enumerate(words):
                if word == "d":
                    loom.run([actions[number]])
                    done, undone = done + [actions[number]], []
                elif (word == "u" and done) or (word == "r" and undone):
                    one, other = (done, undone) if word == "u" else (undone, done)
                    other.append(one.pop())
                    loom.undo() if word == "u" else loom.redo()
                else:
                    with self.assertRaises(NothingToUndo):
                        loom.undo() if word == "u" else loom.redo()
                self.check(loom, net, done)

    def check(self, loom, net, done):
        again = Loom(net)
        again.run(done)
        self.assertEqual((loom.carpet, len(loom)), (again.carpet, len(done)))
        self.assertEqual(loom, again)

    def test_several_actions_are_done_completely_or_not_at_all(self):
        good = [("paint", (0, 0), "b"), ("move", (1, 0)), ("fill", (0, 0), "d")]
        for index in range(4):
            loom = Loom(Net(3, 1, 2))
            loom.paint((1, 1), "c")
            before = loom.carpet
            with self.assertRaises(RunFailed) as caught:
                loom.run(good[:index] + [("move", None)] + good[index:])
            self.assertEqual((caught.exception.index, loom.carpet, len(loom)), (index, before, 1))
            loom.run(good)
            self.assertEqual(loom.carpet, repainted(self.painted(before) + (1, 0), (0, 0), "d"))

    def painted(self, carpet):
        """The carpet with b at all shifts of the net of the looms above."""
        return Carpet.on(Net(3, 1, 2), "b" + "".join(carpet[place] for place in list(Net(3, 1, 2).cell())[1:]))


class Letter_j(unittest.TestCase):
    def test_moved_carpets(self):
        for carpet, other in zip(FEW, CARPETS[4::7]):
            for motion in MOTIONS:
                image = carpet * motion
                self.assertEqual(image.net, carpet.net * motion)
                self.assertEqual((shares(image), touching(image)), (shares(carpet), touching(carpet)))
                self.assertEqual((telling_size(image), share_table(image)), (telling_size(carpet), share_table(carpet)))
                wanted = overlay(carpet, other, clear="a") * motion
                self.assertEqual(overlay(image, other * motion, clear="a"), wanted)
                self.assertEqual(paired(image, other * motion), paired(carpet, other) * motion)
                self.assertEqual(merged(image, other * motion), merged(carpet, other) * motion)

    def test_parts_and_joined_places_of_moved_carpets(self):
        for carpet in FEW:
            for motion in MOTIONS:
                image = carpet * motion
                self.assertEqual(self.told(parts(image)), self.told(parts(carpet)))
                for place in FAR[:2] + [(1, 0), (2, 1)]:
                    joined = are_joined(carpet, (0, 0), place)
                    self.assertIs(are_joined(image, motion((0, 0)), motion(place)), joined)
                    one, other = part_at(carpet, place), part_at(image, motion(place))
                    self.assertEqual(self.told([one]), self.told([other]))

    def told(self, some):
        """What a motion does not change of some Parts, in an order of its own."""
        return sorted((part.colour, part.places, len(part.basis), part.border, part.size or 0) for part in some)

    def test_shifts_between_moved_carpets(self):
        for carpet in FEW:
            for motion in MOTIONS[::4]:
                shift = (BIG, -BIGGER)
                found = shift_between(carpet * motion, (carpet + shift) * motion)
                x, y = Motion(motion.kind)(shift)
                self.assertEqual(found, (carpet.net * motion).reduced((x, y)))

    def test_exchanged_colours(self):
        for carpet, other in zip(FEW, CARPETS[4::7]):
            image, changed = recoloured(carpet, EXCHANGE), recoloured(other, EXCHANGE)
            self.assertEqual((image.net, telling_size(image)), (carpet.net, telling_size(carpet)))
            self.assertEqual(shares(image), {EXCHANGE[one]: share for one, share in shares(carpet).items()})
            pairs = sorted(tuple(sorted((EXCHANGE[one], EXCHANGE[two]))) for one, two in touching(carpet))
            self.assertEqual(touching(image), pairs)
            for part, moved in zip(parts(carpet), parts(image)):
                self.assertEqual((moved.colour, moved.basis), (EXCHANGE[part.colour], part.basis))
                self.assertEqual((moved.size, moved.border), (part.size, part.border))
            for place in FAR:
                self.assertIs(are_joined(image, (0, 0), place), are_joined(carpet, (0, 0), place))
            wanted = recoloured(overlay(carpet, other, clear="a"), EXCHANGE)
            self.assertEqual(overlay(image, changed, clear=EXCHANGE["a"]), wanted)
            self.assertTrue(alike(paired(image, changed), paired(carpet, other)))
            self.assertTrue(alike(merged(image, changed), merged(carpet, other)))

    def test_texts_are_parsed_back(self):
        great = 10 ** 60 - 1
        for place in FAR + [(great, -great), (0, 0)]:
            self.assertEqual(read_place(show_place(place)), place)
            for kind in Motion.KINDS:
                self.assertEqual(read_motion(show_motion(Motion(kind, place))), Motion(kind, place))
        for net in [net for net, _ in DRAWN] + [Net(great, great - 1, great), Net(BIG, 5, BIGGER)]:
            self.assertEqual(read_net(show_net(net)), net)
        for carpet in CARPETS + SAMPLES:
            self.assertEqual(read_carpet(show_carpet(carpet)), carpet)
        for net in (Net(101, 0, 1), Net(1, 0, 101), Net(40, 7, 50)):
            with self.assertRaises(InvalidText):
                read_carpet(show_carpet(marks(net)))

    def test_a_console_tells_the_same(self):
        console = Console()
        for carpet, other in zip(FEW, CARPETS[4::7]):
            console.execute(f"set one {show_carpet(carpet)}")
            console.execute(f"set two {show_carpet(other)}")
            for motion in MOTIONS[::3]:
                console.execute(f"move a one {show_motion(motion)}")
                console.execute(f"move b two {show_motion(motion)}")
                console.execute("overlay c one two a")
                answer = console.execute(f"move c c {show_motion(motion)}")
                self.assertEqual(console.execute("overlay d a b a"), answer)
                self.assertEqual(console.execute("touching a"), console.execute("touching one"))
                self.assertEqual(read_net(console.execute("net a")), carpet.net * motion)


if __name__ == "__main__":
    unittest.main()
