"""Values of wrong kinds, and a check of the errors that they cause."""


class Stubborn:
    """A value that can neither be hashed, compared, measured nor shown."""

    def refuse(self, *rest):
        raise RuntimeError("this value was touched")

    __hash__ = None
    __eq__ = __ne__ = __lt__ = __gt__ = __le__ = __ge__ = refuse
    __bool__ = __len__ = __iter__ = __getitem__ = __contains__ = refuse
    __repr__ = __str__ = __int__ = __index__ = refuse
    __add__ = __radd__ = __mul__ = __rmul__ = __mod__ = __neg__ = refuse


NO_INTEGERS = [True, False, None, "", "1", b"1", 1.0, float("nan"), 1j, (), (1,), [1], {1: 1}, {1}, int, Stubborn()]

NO_PLACES = NO_INTEGERS + [
    0, 7, "ab", "1,2", [0, 0], [1, 2], (0, 0, 0), ((0, 0),), (True, 0), (0, False), (False, False), (0, None),
    (0.0, 0), (0, 1.0), ("0", "0"), ([0], 0), ((0, 0), 0), {0: 0, 1: 0}, {0, 1}, (Stubborn(), 0), (0, Stubborn()),
]

NO_COLOURS = NO_INTEGERS + [
    0, 97, "A", "Z", "ab", "aa", " ", "a ", "\n", "-", "`", "{", "\u00e9", "\u00aa", "\u0430", b"a", ["a"], ("a",),
    {"a"}, {"a": "b"},
]


def assert_raises(case, error, field, value, call, *rest, **more):
    """Assert that a call raises exactly this error, with exactly this object in its field."""
    try:
        call(*rest, **more)
    except Exception as caught:
        case.assertIs(caught.__class__, error)
        held = getattr(caught, field)
        if isinstance(value, int) and not isinstance(value, bool):
            case.assertEqual(held, value)
        else:
            case.assertIs(held, value)
    else:
        case.fail(f"{error.__name__} was not raised")
