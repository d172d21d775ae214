"""Lines and wrong values that several tests use."""

import itertools
import unittest.mock


class EqualToAll:
    """An object that says of everything that it equals it."""

    def __eq__(self, other):
        return True

    def __hash__(self):
        return 0


class Unhashable:
    """An object that is no key and knows no comparison."""

    __hash__ = None

    def __eq__(self, other):
        raise RuntimeError("this object is not compared")


def words(length):
    """All strings of b, o and f that are the letters of a line."""
    for letters in itertools.product("bof", repeat=length):
        word = "".join(letters)
        if not word.startswith("o") and "fo" not in word:
            yield word


def lines(places):
    """All lines with so many places, piece by piece."""
    if places == 0:
        yield ()
    for size in range(1, places + 1):
        for rest in lines(places - size):
            yield (size, *rest)
            if not rest or rest[0] > 0:
                yield (-size, *rest)


SHORT_LINES = [line for places in range(1, 6) for line in lines(places)]

# Each with its letters, its rows and the plans of which it is one.
LONG_LINES = [
    ((60,), "b" + "o" * 59, ((0, 59),), {"behind", "front", "joined", "packed", "any"}),
    ((59,), "b" + "o" * 58, ((0, 58),), {"behind", "front", "joined", "packed", "any"}),
    ((-60,), "f" * 60, (), {"any"}),
    ((-59,), "f" * 59, (), {"any"}),
    ((1,) * 60, "b" * 60, tuple((k, k) for k in range(60)), {"joined", "packed", "any"}),
    ((1,) * 59, "b" * 59, tuple((k, k) for k in range(59)), {"joined", "packed", "any"}),
    ((1, -1) * 30, "bf" * 30, tuple((k, k) for k in range(0, 60, 2)), {"any"}),
    ((-1, 1) * 29 + (-1,), "fb" * 29 + "f", tuple((k, k) for k in range(1, 59, 2)), {"any"}),
    ((1, -59), "b" + "f" * 59, ((0, 0),), {"behind", "packed", "any"}),
    ((58, -1), "b" + "o" * 57 + "f", ((0, 57),), {"behind", "packed", "any"}),
    ((-59, 1), "f" * 59 + "b", ((59, 59),), {"front", "any"}),
    ((-1, 58), "fb" + "o" * 57, ((1, 58),), {"front", "any"}),
    ((30, 29, -1), "b" + "o" * 29 + "b" + "o" * 28 + "f", ((0, 29), (30, 58)), {"packed", "any"}),
    ((30, -1, 29), "b" + "o" * 29 + "fb" + "o" * 28, ((0, 29), (31, 59)), {"any"}),
    ((-1, 30, 28), "fb" + "o" * 29 + "b" + "o" * 27, ((1, 30), (31, 58)), {"any"}),
    ((-20, 20, -20), "f" * 20 + "b" + "o" * 19 + "f" * 20, ((20, 39),), {"any"}),
]

ODD_VALUES = [
    None, True, False, 0, 1, -1, 60, 61, 10 ** 39, 1j, ..., NotImplemented,
    b"", b"b", b"any", bytearray(b"b"), [], [1], ["b"], ["any"], {}, {1: 1}, {"any": 1},
    set(), {1}, {"any"}, frozenset({1}), range(1, 3), object(), EqualToAll(), Unhashable(),
    unittest.mock.ANY, int, str, tuple, len, lambda line: line, ValueError("any"),
]

WRONG_LINES = ODD_VALUES + [
    "", "b", "bof", "any",
    (), (0,), (1, 0), (0, 1), (1, 0, 1), (-1, 0, -1), (-1, 0),
    (True,), (False,), (1, True), (True, 1), (-1, True), (1, False),
    (-1, -1), (2, -1, -1), (-1, -1, 2), (1, -1, -2, 1), (-30, -30), (1, -1, 1, -1, -1),
    (61,), (-61,), (1,) * 61, (60, 1), (60, -1), (-60, 1), (1, -60), (30, -31), (31, 30),
    (-30, 31), (1, -1) * 30 + (1,), (-1, 1) * 30 + (-1,), (59, 1, 1), (10 ** 39,), (-10 ** 39,),
    ("b",), ("1",), (1, "o"), (None,), (1, None), (None, 1), (b"b",), (1j,),
    ((1,),), ((1, 2), 3), (1, (2,)), (1, -1, (1,)), ((),), ((0, 2), (5, 5)),
    ([1],), (1, [2]), ({},), (1, {1}), (EqualToAll(),), (1, Unhashable()), (unittest.mock.ANY,),
    [1, -1, 2], [3, -2, 1], (((((((((1,),),),),),),),),),
]

WRONG_TEXTS = ODD_VALUES + [
    "", "\n", "b\n", "\nb", "b\nb", "bo\n", " ", "b ", " b", "b b",
    "B", "O", "F", "BOF", "Bo", "bO", "bF", "x", "bx", "xb", "a", "boofa", "b,o", "~", "1", "-1",
    "o", "ob", "of", "oo", "obf", "fo", "foo", "bfo", "bofo", "fob", "ffo", "bfbfo", "bofob",
    "b" * 61, "f" * 61, "b" + "o" * 60, "bf" * 30 + "b", "f" + "b" * 60, "b" * 2000,
    "o" * 60, "f" * 59 + "o", "b" * 59 + "\n", "b" * 60 + "\n",
    ("b",), ("b", "o"), ["b", "o"], (1,), (3, -2, 1), (),
]

WRONG_PLANS = ODD_VALUES + [
    "", "Behind", "BEHIND", "behind ", " behind", "behind\n", "behin", "behindfront", "back",
    "Any", "an", "all", "join", "pack", "packed joined", "any,any", "b",
    (), ("any",), ("behind", "front"), (1,), (1, -1), ["behind"],
]
