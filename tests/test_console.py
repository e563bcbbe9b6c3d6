import inspect
import itertools
import unittest

from carpets.carpets import Carpet
from carpets.console import Console
from carpets.errors import InvalidCommand, LimitExceeded, UnknownName
from carpets.motions import Motion
from carpets.nets import Net
from carpets.parts import are_joined, parts, repainted, touching
from carpets.refining import is_finer, merged, paired
from carpets.texts import show_carpet, show_motion, show_net, show_place
from carpets.weaving import overlay
from models import BIG, FAR, SAMPLES
from odd_values import NO_INTEGERS, Stubborn, assert_raises

# A good command of each form, with the names one, two and three.
GOOD = [
    "set one ab+1", "drop one", "names", "show one", "net one", "at one 1,2", "touching one", "move one two left 1,2",
    "fill one two 1,2 c", "overlay one two three a", "pair one two three", "merge one two three", "finer one two",
    "joined one 1,2 -3,4", "parts one",
]

# The commands whose second word is the name under which a carpet is to be kept.
KEEPING = ("set", "move", "fill", "overlay", "pair", "merge")


def filled():
    """A console that keeps three carpets."""
    console = Console()
    for line in ("set one ab+1", "set two aab/abb+0", "set three abc+1"):
        console.execute(line)
    return console


def kept(console):
    """What a console shows of all that it keeps."""
    names = console.execute("names")
    shown = [] if names == "-" else [console.execute(f"show {name}") for name in names.split(" ")]
    return (names, shown, len(console))


def assert_unknown(case, name, console, line):
    """Assert that a command fails since this name is not kept, and that all that is kept stays."""
    before = kept(console)
    with case.assertRaises(UnknownName) as caught:
        console.execute(line)
    case.assertEqual(caught.exception.name, name)
    case.assertEqual(kept(console), before)


class Making(unittest.TestCase):
    def test_example_of_the_document(self):
        console = Console()
        console.execute("set one ab/ba+0")
        answers = (console.execute("show one"), console.execute("parts one"), console.execute("joined one 0,0 1,1"))
        self.assertEqual(repr(answers), "('ab+1', 'a 0,0 1; b 1,0 1', 'no')")

    def test_interface(self):
        self.assertEqual(str(inspect.signature(Console)), "()")
        self.assertEqual(str(inspect.signature(Console.__dict__["execute"])), "(self, line)")
        self.assertIn("__len__", Console.__dict__)
        self.assertEqual(Console.__module__, "carpets.console")
        self.assertEqual(Console().execute(line="names"), "-")

    def test_two_consoles_do_not_meet(self):
        one, other = filled(), Console()
        self.assertEqual((len(one), len(other), other.execute("names")), (3, 0, "-"))


class Keeping(unittest.TestCase):
    def test_set_and_show(self):
        console = Console()
        self.assertEqual(console.execute("set one ab/ba+0"), "ok")
        self.assertEqual((console.execute("show one"), len(console)), ("ab+1", 1))
        self.assertEqual(console.execute("set one c+0"), "ok")
        self.assertEqual((console.execute("show one"), len(console)), ("c+0", 1))

    def test_drop(self):
        console = filled()
        self.assertEqual(console.execute("drop two"), "ok")
        self.assertEqual((console.execute("names"), len(console)), ("one three", 2))
        assert_unknown(self, "two", console, "drop two")
        assert_unknown(self, "two", console, "show two")
        console.execute("drop one"), console.execute("drop three")
        self.assertEqual((console.execute("names"), len(console)), ("-", 0))

    def test_names_in_ascending_order(self):
        console = Console()
        for name in ("b", "ab", "z", "aa", "abc", "names", "set", "zzzzzzzz"):
            console.execute(f"set {name} a+0")
        self.assertEqual(console.execute("names"), "aa ab abc b names set z zzzzzzzz")
        self.assertEqual(len(console), 8)

    def test_names_of_1_to_8_letters(self):
        console = Console()
        for name in ("a", "z", "abcdefgh", "show"):
            self.assertEqual(console.execute(f"set {name} a+0"), "ok")
        for name in ("", "abcdefghi", "A", "oNe", "one1", "1", "o-e", "one,", "o_e", "\u00e9", "-"):
            for form in ("set {} a+0", "show {}", "drop {}", "move {} a none 0,0", "move a {} none 0,0", "finer a {}"):
                line = form.format(name)
                assert_raises(self, InvalidCommand, "value", line, console.execute, line)


class Answers(unittest.TestCase):
    def setUp(self):
        self.console = Console()
        for index, carpet in enumerate(SAMPLES):
            self.console.execute(f"set {self.name(index)} {show_carpet(carpet)}")

    def name(self, index):
        return "abcdefghijklmnopqrstuvwxyz"[index] * (1 + index % 8)

    def ask(self, form, *rest):
        return self.console.execute(form.format(*rest))

    def test_one_carpet(self):
        for index, carpet in enumerate(SAMPLES):
            name = self.name(index)
            self.assertEqual(self.ask("show {}", name), show_carpet(carpet))
            self.assertEqual(self.ask("net {}", name), show_net(carpet.net))
            pairs = " ".join(one + two for one, two in touching(carpet)) or "-"
            self.assertEqual(self.ask("touching {}", name), pairs)
            for place in FAR + [(0, 0), (-1, 2)]:
                self.assertEqual(self.ask("at {} {}", name, show_place(place)), carpet[place])

    def test_parts(self):
        for index, carpet in enumerate(SAMPLES):
            wanted = "; ".join(
                f"{part.colour} {part.start[0]},{part.start[1]} {'-' if part.size is None else part.size}"
                for part in parts(carpet)
            )
            self.assertEqual(self.ask("parts {}", self.name(index)), wanted)

    def test_examples(self):
        console = filled()
        for line, wanted in (
            ("show three", "abc+1"), ("net two", "[3 0 2]"), ("net one", "[2 1 1]"), ("at one 3,0", "b"),
            ("touching three", "ab ac bc"), ("parts two", "a 0,0 -; b 2,0 -"),
            ("parts three", "a 0,0 1; b 1,0 1; c 2,0 1"),
            ("finer one one", "yes"), ("finer one two", "no"), ("joined two 0,0 1,0", "yes"),
            ("joined two 0,0 2,0", "no"), ("names", "one three two"),
        ):
            self.assertEqual(console.execute(line), wanted, line)
        console.execute("set plain k+0")
        self.assertEqual((console.execute("touching plain"), console.execute("parts plain")), ("-", "k 0,0 -"))

    def test_finer_and_joined(self):
        for i, j in itertools.product(range(9), repeat=2):
            wanted = "yes" if is_finer(SAMPLES[i], SAMPLES[j]) else "no"
            self.assertEqual(self.ask("finer {} {}", self.name(i), self.name(j)), wanted)
        for index, carpet in enumerate(SAMPLES):
            for place in FAR + [(1, 0), (0, 1)]:
                wanted = "yes" if are_joined(carpet, (0, 0), place) else "no"
                self.assertEqual(self.ask("joined {} 0,0 {}", self.name(index), show_place(place)), wanted)

    def test_what_only_answers_keeps_nothing(self):
        before = kept(self.console)
        for line in ("show a", "net a", "at a 1,2", "touching a", "finer a bb", "joined a 0,0 1,0", "parts a", "names"):
            self.console.execute(line)
        self.assertEqual(kept(self.console), before)

    def check_kept(self, line, carpet):
        self.assertEqual(self.console.execute(line), show_carpet(carpet), line)
        name = line.split(" ")[1]
        self.assertEqual(self.console.execute(f"show {name}"), show_carpet(carpet))

    def test_move(self):
        for index, carpet in enumerate(SAMPLES):
            for kind in Motion.KINDS:
                motion = Motion(kind, (BIG, -7))
                self.check_kept(f"move new {self.name(index)} {show_motion(motion)}", carpet * motion)

    def test_fill(self):
        for index, carpet in enumerate(SAMPLES):
            for place in ((0, 0), (1, 1), (-BIG, 4)):
                line = f"fill new {self.name(index)} {show_place(place)} z"
                self.check_kept(line, repainted(carpet, place, "z"))

    def test_two_carpets(self):
        for i, j in itertools.product(range(9), repeat=2):
            one, other = self.name(i), self.name(j)
            for clear in "ab":
                self.check_kept(f"overlay new {one} {other} {clear}", overlay(SAMPLES[i], SAMPLES[j], clear=clear))
            self.check_kept(f"pair new {one} {other}", paired(SAMPLES[i], SAMPLES[j]))
            self.check_kept(f"merge new {one} {other}", merged(SAMPLES[i], SAMPLES[j]))

    def test_the_name_of_one_that_is_used(self):
        console = filled()
        self.assertEqual(console.execute("move three three none 1,0"), "cab+1")
        self.assertEqual(console.execute("show three"), "cab+1")
        self.assertEqual(console.execute("overlay one one three a"), show_carpet(
            overlay(Carpet(["ab"], shift=1), Carpet(["cab"], shift=1), clear="a")))
        self.assertEqual((len(console), console.execute("show two")), (3, "aab/abb+0"))


class WrongCommands(unittest.TestCase):
    def check(self, line):
        console = filled()
        before = kept(console)
        assert_raises(self, InvalidCommand, "value", line, console.execute, line)
        self.assertEqual(kept(console), before)

    def test_values_that_are_no_texts(self):
        for value in NO_INTEGERS[:2] + [None, 0, 1.5, b"names", ["names"], ("names",), {"names"}, Console, Stubborn()]:
            self.check(value)

    def test_all_good_ones(self):
        for line in GOOD:
            self.assertIsInstance(filled().execute(line), str)

    def test_a_word_too_many_or_too_few(self):
        for line in GOOD:
            words = line.split(" ")
            for word in ("one", "a", "1,2", "ab+0", "left", "names", ""):
                self.check(line + " " + word)
            for index in range(len(words)):
                if len(words) > 1:
                    self.check(" ".join(words[:index] + words[index + 1:]))
        self.check("")

    def test_spaces(self):
        for line in GOOD:
            self.check(line + " ")
            self.check(" " + line)
            for index, sign in enumerate(line):
                if sign == " ":
                    self.check(line[:index] + "  " + line[index + 1:])
                    self.check(line[:index] + "\n" + line[index + 1:])
                    self.check(line[:index] + "\t" + line[index + 1:])
        for line in (" ", "  ", "\n"):
            self.check(line)

    def test_signs_that_do_not_belong_there(self):
        for line in GOOD:
            for word in line.split(" "):
                for sign in ("!", ".", "A", "\n", "%", "\u00e9"):
                    self.check(line.replace(word, word + sign, 1))
                    self.check(line.replace(word, sign + word, 1))
            self.check(line + "\n")
            self.check(line.upper())

    def test_first_words_that_are_none(self):
        for line in ("one", "shows one", "Show one", "name", "undo", "get one", "new one", "kind one", "-", "ok"):
            self.check(line)

    def test_other_texts(self):
        for line in (
            "set one ab", "set one ab+2", "set one ab/a+0", "set one +0", "set one " + "a" * 101 + "+0",
            "set one " + "/".join(["a" * 91] * 11) + "+0", "set one [2 1 1]", "at one 1", "at one 1,2,3", "at one 01,2",
            "at one (1,2)", "at one -0,1", "at one 1" + "0" * 60 + ",1", "move one two turn 1,2", "move one two left 1",
            "move one two left,1,2", "move one two 1,2 left", "move one two Left 1,2", "fill one two c 1,2",
            "fill one two 1,2 cc", "fill one two 1,2 C", "fill one two 1,2 1", "overlay one two three ab",
            "overlay one two three -", "overlay one two a three", "joined one 0,0 one", "joined 0,0 one 1,1",
            "finer one 1,2", "parts 1,2", "touching ab+0", "drop ab+0", "names one", "x" * 20000, "set " * 5000,
        ):
            self.check(line)

    def test_the_form_comes_before_the_names(self):
        for line in (
            "at gone 1", "fill new gone 1,2 C", "overlay new gone lost A", "joined gone 0,0 0", "move a gone up 0,0",
        ):
            self.check(line)


class UnknownNames(unittest.TestCase):
    def test_each_name_of_each_command(self):
        for line in GOOD:
            words = line.split(" ")
            for index, word in enumerate(words):
                if word in ("one", "two", "three") and not (index == 1 and words[0] in KEEPING):
                    assert_unknown(self, "gone", filled(), " ".join(words[:index] + ["gone"] + words[index + 1:]))

    def test_the_first_one(self):
        assert_unknown(self, "gone", filled(), "finer gone lost")
        assert_unknown(self, "lost", filled(), "finer one lost")
        assert_unknown(self, "gone", filled(), "overlay new gone lost a")
        assert_unknown(self, "lost", filled(), "pair new one lost")
        assert_unknown(self, "gone", filled(), "merge gone gone lost")

    def test_the_name_under_which_a_carpet_is_to_be_kept(self):
        for line in GOOD:
            words = line.split(" ")
            if words[0] in KEEPING:
                console = filled()
                console.execute(" ".join(words[:1] + ["new"] + words[2:]))
                self.assertEqual((len(console), console.execute("names")), (4, "new one three two"))
        assert_unknown(self, "new", filled(), "move new new none 0,0")

    def test_names_come_before_what_the_function_raises(self):
        console = Console()
        console.execute("set row " + "a" * 99 + "b+0")
        console.execute("set column " + "/".join(["a"] * 20 + ["b"]) + "+0")
        for line in ("pair new row gone", "merge new gone column", "overlay new row gone a", "finer gone row"):
            assert_unknown(self, "gone", console, line)


class OtherErrors(unittest.TestCase):
    def test_what_the_called_function_raises(self):
        console = Console()
        console.execute("set row " + "a" * 99 + "b+0")
        console.execute("set column " + "/".join(["a"] * 20 + ["b"]) + "+0")
        before = kept(console)
        for line in ("pair new row column", "merge new row column", "overlay new row column a", "finer row column"):
            assert_raises(self, LimitExceeded, "limit", 2000, console.execute, line)
        self.assertEqual(kept(console), before)
        console.execute("set one abcdefghijklm+0")
        console.execute("set two a/b/c+0")
        assert_raises(self, LimitExceeded, "limit", 26, console.execute, "pair one one two")
        self.assertEqual(console.execute("show one"), "abcdefghijklm+0")

    def test_carpets_that_are_too_wide_to_be_set_are_kept(self):
        console = Console()
        console.execute("set row " + "a" * 99 + "b+0")
        console.execute("set column " + "/".join(["a"] * 19 + ["b"]) + "+0")
        answer = console.execute("merge new row column")
        self.assertEqual(answer, "a+0")
        self.assertEqual(len(console.execute("pair new row column")), 100 * 20 + 19 + 2)
        self.assertEqual(console.execute("net new"), show_net(Net(100, 0, 20)))


if __name__ == "__main__":
    unittest.main()
