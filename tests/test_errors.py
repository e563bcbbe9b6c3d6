import unittest

import carpets.errors as errors

FIELDS = [
    ("InvalidNet", "value"), ("InvalidPlace", "value"), ("InvalidMotion", "value"), ("InvalidRows", "index"),
    ("InvalidColour", "value"), ("InvalidTable", "value"), ("InvalidNumber", "value"), ("InvalidObservation", "index"),
    ("InvalidText", "value"), ("InvalidCommand", "value"), ("LimitExceeded", "limit"), ("UnknownName", "name"),
    ("RunFailed", "index"),
]

OTHER_KINDS = {
    "LimitExceeded": OverflowError,
    "NothingToUndo": RuntimeError,
    "UnknownName": KeyError,
    "RunFailed": ArithmeticError,
}

NAMES = [name for name, _ in FIELDS] + ["NothingToUndo"]


class Fields(unittest.TestCase):
    def test_the_argument_is_kept_in_the_field(self):
        for name, field in FIELDS:
            for value in (None, 3, "x", [1], (1, [2]), object()):
                with self.subTest(name=name, value=value):
                    made = getattr(errors, name)
                    self.assertIs(getattr(made(value), field), value)
                    self.assertIs(getattr(made(**{field: value}), field), value)

    def test_only_the_field_is_added(self):
        for name, field in FIELDS:
            self.assertEqual(list(vars(getattr(errors, name)(1))), [field], name)
        self.assertEqual(vars(errors.NothingToUndo()), {})

    def test_one_argument_is_needed(self):
        for name, _ in FIELDS:
            with self.assertRaises(TypeError, msg=name):
                getattr(errors, name)()

    def test_each_error_can_be_raised_and_caught_by_name(self):
        for name, field in FIELDS:
            with self.assertRaises(getattr(errors, name)) as caught:
                raise getattr(errors, name)("what")
            self.assertEqual(getattr(caught.exception, field), "what")
        with self.assertRaises(errors.NothingToUndo):
            raise errors.NothingToUndo()


class Kinds(unittest.TestCase):
    def test_the_base_class_is_a_value_error(self):
        self.assertEqual(errors.CarpetError.__bases__, (ValueError,))

    def test_the_built_in_kinds(self):
        for name in NAMES:
            wanted = OTHER_KINDS.get(name, errors.CarpetError)
            self.assertEqual(getattr(errors, name).__bases__, (wanted,), name)

    def test_no_error_is_a_kind_of_another_one(self):
        for one in NAMES:
            for other in NAMES:
                if one != other:
                    self.assertFalse(issubclass(getattr(errors, one), getattr(errors, other)), (one, other))

    def test_the_other_classes_are_no_carpet_errors(self):
        for name in OTHER_KINDS:
            self.assertFalse(issubclass(getattr(errors, name), errors.CarpetError), name)


if __name__ == "__main__":
    unittest.main()
