"""The interface and the conventions of the document, over the whole program."""

import ast
import importlib
import inspect
import pathlib
import unittest

from carpets.carpets import Carpet
from carpets.motions import Motion
from carpets.nets import Net
from carpets.patches import Patch
from models import BIG, BIGGER

PACKAGE = pathlib.Path(__file__).resolve().parent.parent / "carpets"

# The functions of each file, with their parameters.
FUNCTIONS = {
    "nets": {"nets_of_size": "(size)", "nets_above": "(net)"},
    "comparing": {
        "difference": "(one, other)", "is_difference": "(one, other, value)", "shift_between": "(one, other)",
    },
    "weaving": {
        "overlay": "(top, below, *, clear)", "layered": "(*layers, clear)",
        "masked": "(carpet, mask, *, shown, blank)", "uncovered": "(result, top, net, *, clear)",
        "recoloured": "(carpet, table)",
    },
    "refining": {
        "refinement": "(one, other)", "is_finer": "(one, other)", "paired": "(*carpets)", "merged": "(*carpets)",
    },
    "scaling": {
        "enlarged": "(carpet, width, height)", "sampled": "(carpet, width, height, *, start=(0, 0))",
        "shares": "(carpet)",
    },
    "patches": {
        "occurrences": "(carpet, patch)", "next_occurrence": "(carpet, patch, place)",
        "frequency": "(carpet, patch)", "windows": "(carpet, width, height)", "telling_size": "(carpet)",
    },
    "parts": {
        "parts": "(carpet)", "part_at": "(carpet, place)", "are_joined": "(carpet, first, second)",
        "touching": "(carpet)", "repainted": "(carpet, place, colour)", "path": "(carpet, first, second)",
        "is_path": "(carpet, first, second, value)",
    },
    "observing": {
        "explaining": "(candidates, observations)", "fitting_nets": "(observations, size)",
        "sure_colour": "(net, observations, place)", "open_places": "(net, observations)",
        "least_fitting": "(observations)", "colourings": "(net, colours, observations)",
        "telling_place": "(candidates)",
    },
    "texts": {
        "show_place": "(place)", "show_net": "(net)", "show_motion": "(motion)", "show_carpet": "(carpet)",
        "read_place": "(text)", "read_net": "(text)", "read_motion": "(text)", "read_carpet": "(text)",
        "picture": "(carpet, place, width, height)", "share_table": "(carpet)",
    },
}

# The classes of each file, with the parameters of each class and the names that are defined in it.
CLASSES = {
    "errors": {
        "CarpetError": (None, ""), "InvalidNet": ("(value)", ""), "InvalidPlace": ("(value)", ""),
        "InvalidMotion": ("(value)", ""), "InvalidRows": ("(index)", ""), "InvalidColour": ("(value)", ""),
        "InvalidTable": ("(value)", ""), "InvalidNumber": ("(value)", ""), "InvalidObservation": ("(index)", ""),
        "InvalidText": ("(value)", ""), "InvalidCommand": ("(value)", ""), "LimitExceeded": ("(limit)", ""),
        "NothingToUndo": (None, ""), "UnknownName": ("(name)", ""), "RunFailed": ("(index)", ""),
    },
    "nets": {"Net": ("(a, b, c)", "numbers size __eq__ __repr__ __contains__ __and__ __or__ __mul__ reduced order "
                                  "cell is_within scaled of whole")},
    "motions": {"Motion": ("(kind, shift=(0, 0))", "kind shift is_mirrored KINDS by __call__ __mul__ __invert__ "
                                                   "repeated __eq__ __repr__")},
    "carpets": {"Carpet": ("(rows, *, shift=0)", "net text rows colours __len__ __eq__ __repr__ __getitem__ __add__ "
                                                 "__sub__ __mul__ is_kept_by on plain __contains__")},
    "patches": {"Patch": ("(rows)", "rows width height __eq__ __repr__")},
    "parts": {"Part": (None, "colour start places basis size border net __eq__")},
    "looms": {"Loom": ("(net, *, colour='a')", "net carpet log __len__ __eq__ paint cover move fill undo redo run "
                                               "copy")},
    "console": {"Console": ("()", "execute __len__")},
}

CARPET, OTHER, NET = Carpet(["aab", "abc"], shift=1), Carpet(["ab", "ba", "ca"]), Net(3, 1, 2)
SEEN = [((0, 0), "a"), ((BIG, -BIGGER), "b")]
FAR = (BIG, -BIGGER)

# For each function a good call: what is passed by position or by name, and what is passed by name only.
CALLS = [
    ("nets", "nets_of_size", {"size": 12}, {}),
    ("nets", "nets_above", {"net": NET}, {}),
    ("comparing", "difference", {"one": CARPET, "other": OTHER}, {}),
    ("comparing", "is_difference", {"one": CARPET, "other": OTHER, "value": FAR}, {}),
    ("comparing", "shift_between", {"one": CARPET, "other": CARPET - (1, 1)}, {}),
    ("weaving", "overlay", {"top": CARPET, "below": OTHER}, {"clear": "a"}),
    ("weaving", "masked", {"carpet": CARPET, "mask": OTHER}, {"shown": "ac", "blank": "z"}),
    ("weaving", "uncovered", {"result": CARPET, "top": CARPET, "net": NET}, {"clear": "a"}),
    ("weaving", "recoloured", {"carpet": CARPET, "table": {"a": "b", "b": "a"}}, {}),
    ("refining", "refinement", {"one": CARPET, "other": Carpet(["q"])}, {}),
    ("refining", "is_finer", {"one": CARPET, "other": OTHER}, {}),
    ("scaling", "enlarged", {"carpet": CARPET, "width": 2, "height": 3}, {}),
    ("scaling", "sampled", {"carpet": CARPET, "width": 2, "height": 3}, {"start": FAR}),
    ("scaling", "shares", {"carpet": CARPET}, {}),
    ("patches", "occurrences", {"carpet": CARPET, "patch": Patch(["a."])}, {}),
    ("patches", "next_occurrence", {"carpet": CARPET, "patch": Patch(["a"]), "place": FAR}, {}),
    ("patches", "frequency", {"carpet": CARPET, "patch": Patch(["a."])}, {}),
    ("patches", "windows", {"carpet": CARPET, "width": 3, "height": 1}, {}),
    ("patches", "telling_size", {"carpet": CARPET}, {}),
    ("parts", "parts", {"carpet": CARPET}, {}),
    ("parts", "part_at", {"carpet": CARPET, "place": FAR}, {}),
    ("parts", "are_joined", {"carpet": CARPET, "first": (0, 0), "second": FAR}, {}),
    ("parts", "touching", {"carpet": CARPET}, {}),
    ("parts", "repainted", {"carpet": CARPET, "place": FAR, "colour": "z"}, {}),
    ("parts", "path", {"carpet": CARPET, "first": (0, 0), "second": (1, 0)}, {}),
    ("parts", "is_path", {"carpet": CARPET, "first": (0, 0), "second": (1, 0), "value": [(0, 0), (1, 0)]}, {}),
    ("observing", "explaining", {"candidates": [CARPET, OTHER], "observations": SEEN}, {}),
    ("observing", "fitting_nets", {"observations": SEEN, "size": 4}, {}),
    ("observing", "sure_colour", {"net": NET, "observations": SEEN, "place": (3, 0)}, {}),
    ("observing", "open_places", {"net": NET, "observations": SEEN}, {}),
    ("observing", "least_fitting", {"observations": SEEN}, {}),
    ("observing", "colourings", {"net": Net(2, 0, 1), "colours": 3, "observations": SEEN[:1]}, {}),
    ("observing", "telling_place", {"candidates": [CARPET, OTHER]}, {}),
    ("texts", "show_place", {"place": FAR}, {}),
    ("texts", "show_net", {"net": NET}, {}),
    ("texts", "show_motion", {"motion": Motion("left", FAR)}, {}),
    ("texts", "show_carpet", {"carpet": CARPET}, {}),
    ("texts", "read_place", {"text": "3,-4"}, {}),
    ("texts", "read_net", {"text": "[3 1 2]"}, {}),
    ("texts", "read_motion", {"text": "left 3,-4"}, {}),
    ("texts", "read_carpet", {"text": "ab/ba+1"}, {}),
    ("texts", "picture", {"carpet": CARPET, "place": FAR, "width": 3, "height": 2}, {}),
    ("texts", "share_table", {"carpet": CARPET}, {}),
]


def found(module, name):
    return getattr(importlib.import_module(f"carpets.{module}"), name)


def value_of(result):
    """The result itself, or the list of what a generator yields."""
    return list(result) if inspect.isgenerator(result) else result


def spoil(value):
    """Change all lists and dicts within a value."""
    parts = value.values() if isinstance(value, dict) else value if isinstance(value, (list, tuple)) else []
    for part in list(parts):
        spoil(part)
    if isinstance(value, (list, dict)):
        value.clear()


class Interface(unittest.TestCase):
    def test_functions(self):
        for module, functions in FUNCTIONS.items():
            for name, parameters in functions.items():
                self.assertEqual(str(inspect.signature(found(module, name))), parameters, name)

    def test_classes(self):
        for module, classes in CLASSES.items():
            for name, (parameters, members) in classes.items():
                made = found(module, name)
                if parameters is not None:
                    self.assertEqual(str(inspect.signature(made)), parameters, name)
                for member in members.split():
                    self.assertIn(member, made.__dict__, name)

    def test_each_name_is_defined_in_its_file(self):
        for table in (FUNCTIONS, CLASSES):
            for module, names in table.items():
                tree = ast.parse((PACKAGE / f"{module}.py").read_text(encoding="utf-8"))
                defined = [node.name for node in tree.body if isinstance(node, (ast.FunctionDef, ast.ClassDef))]
                for name in names:
                    self.assertIn(name, defined)

    def test_there_is_a_call_of_each_function(self):
        called = {(module, name) for module, name, _, _ in CALLS}
        wanted = {(module, name) for module, functions in FUNCTIONS.items() for name in functions}
        self.assertEqual(wanted - called, {("weaving", "layered"), ("refining", "paired"), ("refining", "merged")})


class Arguments(unittest.TestCase):
    def test_by_position_and_by_name_in_any_order(self):
        for module, name, plain, named in CALLS:
            call = found(module, name)
            wanted = value_of(call(*plain.values(), **named))
            together = {**plain, **named}
            for keys in (list(together), list(together)[::-1]):
                self.assertEqual(value_of(call(**{key: together[key] for key in keys})), wanted, name)

    def test_behind_the_star_only_by_name(self):
        for module, name, plain, named in CALLS:
            if named:
                with self.assertRaises(TypeError, msg=name):
                    found(module, name)(*plain.values(), *named.values())

    def test_they_are_not_changed(self):
        for module, name, plain, named in CALLS:
            before = repr((plain, named))
            value_of(found(module, name)(**plain, **named))
            self.assertEqual(repr((plain, named)), before, name)

    def test_wrong_ones_are_not_changed_either(self):
        for module, name, plain, named in CALLS:
            for key in plain:
                if key in ("place", "first", "second", "size", "width", "height", "colour", "colours", "text"):
                    value = [[1, 2], {"a": [3]}]
                    with self.assertRaises((ValueError, OverflowError)) as caught:
                        value_of(found(module, name)(**{**plain, **named, key: value}))
                    self.assertEqual(value, [[1, 2], {"a": [3]}])
                    self.assertIs(caught.exception.value, value)


class Results(unittest.TestCase):
    def test_lists_and_dicts_are_new(self):
        for module, name, plain, named in CALLS:
            call = found(module, name)
            wanted = repr(value_of(call(**plain, **named)))
            if "object at" not in wanted:
                spoil(value_of(call(**plain, **named)))
                self.assertEqual(repr(value_of(call(**plain, **named))), wanted, name)

    def test_no_result_is_an_argument(self):
        candidates, observations, places = [CARPET], list(SEEN), [(0, 0)]
        for result in (
            found("observing", "explaining")(candidates, []), found("observing", "open_places")(NET, observations),
            found("parts", "path")(CARPET, (0, 0), (0, 0)), Patch(["a"]).rows,
        ):
            for argument in (candidates, observations, places):
                self.assertIsNot(result, argument)

    def test_what_yields_is_a_generator(self):
        for made in (
            NET.cell(), found("nets", "nets_of_size")(None), found("observing", "colourings")(None, None, [None]),
        ):
            self.assertTrue(inspect.isgenerator(made))

    def test_attributes_are_there_from_the_start(self):
        loom = found("looms", "Loom")(NET)
        part = found("parts", "part_at")(CARPET, (0, 0))
        for thing, names in (
            (NET, "numbers size"), (Motion("left"), "kind shift is_mirrored KINDS"),
            (CARPET, "net text rows colours"), (Patch(["a"]), "rows width height"),
            (part, "colour start places basis size border net"), (loom, "net carpet log"),
        ):
            for name in names.split():
                getattr(thing, name)


if __name__ == "__main__":
    unittest.main()
