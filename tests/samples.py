"""Lines and wrong values that several tests use."""

import functools
import itertools
import re
import unittest
import unittest.mock


class WrongArguments(unittest.TestCase):
    """A test case that can ask for an error with just what was passed, or with a number."""

    def assert_given(self, error, given, call):
        with self.assertRaises(error) as caught:
            call()
        self.assertIs(type(caught.exception), error)
        self.assertIs(caught.exception.given, given)

    def assert_told(self, error, told, call):
        with self.assertRaises(error) as caught:
            call()
        self.assertIs(type(caught.exception), error)
        (value,) = vars(caught.exception).values()
        self.assertEqual(value, told)
        self.assertIs(type(value), type(told))


class EqualToAll:
    """An object that says of everything that it equals it."""

    def __eq__(self, other):
        return True

    def __hash__(self):
        return 0


class Unhashable:
    """An object that is no key and knows no comparison."""

    __hash__ = None

    def __eq__(self, other):
        raise RuntimeError("this object is not compared")


def words(length):
    """All strings of b, o and f that are the letters of a line."""
    for letters in itertools.product("bof", repeat=length):
        word = "".join(letters)
        if not word.startswith("o") and "fo" not in word:
            yield word


def lines(places):
    """All lines with so many places, piece by piece."""
    if places == 0:
        yield ()
    for size in range(1, places + 1):
        for rest in lines(places - size):
            yield (size, *rest)
            if not rest or rest[0] > 0:
                yield (-size, *rest)


PLANS = ("behind", "front", "joined", "packed", "any")
KINDS = ("filling", "other", "strange", "later", "earlier")

SHORT_LINES = [line for places in range(1, 6) for line in lines(places)]

# All lines of up to six places, with fewer places first.
LINES = SHORT_LINES + list(lines(6))

# Each with its letters, its rows and the plans of which it is one.
LONG_LINES = [
    ((60,), "b" + "o" * 59, ((0, 59),), {"behind", "front", "joined", "packed", "any"}),
    ((59,), "b" + "o" * 58, ((0, 58),), {"behind", "front", "joined", "packed", "any"}),
    ((-60,), "f" * 60, (), {"any"}),
    ((-59,), "f" * 59, (), {"any"}),
    ((1,) * 60, "b" * 60, tuple((k, k) for k in range(60)), {"joined", "packed", "any"}),
    ((1,) * 59, "b" * 59, tuple((k, k) for k in range(59)), {"joined", "packed", "any"}),
    ((1, -1) * 30, "bf" * 30, tuple((k, k) for k in range(0, 60, 2)), {"any"}),
    ((-1, 1) * 29 + (-1,), "fb" * 29 + "f", tuple((k, k) for k in range(1, 59, 2)), {"any"}),
    ((1, -59), "b" + "f" * 59, ((0, 0),), {"behind", "packed", "any"}),
    ((58, -1), "b" + "o" * 57 + "f", ((0, 57),), {"behind", "packed", "any"}),
    ((-59, 1), "f" * 59 + "b", ((59, 59),), {"front", "any"}),
    ((-1, 58), "fb" + "o" * 57, ((1, 58),), {"front", "any"}),
    ((30, 29, -1), "b" + "o" * 29 + "b" + "o" * 28 + "f", ((0, 29), (30, 58)), {"packed", "any"}),
    ((30, -1, 29), "b" + "o" * 29 + "fb" + "o" * 28, ((0, 29), (31, 59)), {"any"}),
    ((-1, 30, 28), "fb" + "o" * 29 + "b" + "o" * 27, ((1, 30), (31, 58)), {"any"}),
    ((-20, 20, -20), "f" * 20 + "b" + "o" * 19 + "f" * 20, ((20, 39),), {"any"}),
]

ODD_VALUES = [
    None, True, False, 0, 1, -1, 60, 61, 10 ** 39, 1j, ..., NotImplemented,
    b"", b"b", b"any", bytearray(b"b"), [], [1], ["b"], ["any"], {}, {1: 1}, {"any": 1},
    set(), {1}, {"any"}, frozenset({1}), range(1, 3), object(), EqualToAll(), Unhashable(),
    unittest.mock.ANY, int, str, tuple, len, lambda line: line, ValueError("any"),
]

# Ten deep, as deep as any value is nested.
NESTED = functools.reduce(lambda value, _: (value,), range(10), 1)

WRONG_LINES = ODD_VALUES + [
    "", "b", "bof", "any",
    (), (0,), (1, 0), (0, 1), (1, 0, 1), (-1, 0, -1), (-1, 0),
    (True,), (False,), (1, True), (True, 1), (-1, True), (1, False),
    (-1, -1), (2, -1, -1), (-1, -1, 2), (1, -1, -2, 1), (-30, -30), (1, -1, 1, -1, -1),
    (61,), (-61,), (1,) * 61, (60, 1), (60, -1), (-60, 1), (1, -60), (30, -31), (31, 30),
    (-30, 31), (1, -1) * 30 + (1,), (-1, 1) * 30 + (-1,), (59, 1, 1), (10 ** 39,), (-10 ** 39,),
    ("b",), ("1",), (1, "o"), (None,), (1, None), (None, 1), (b"b",), (1j,),
    ((1,),), ((1, 2), 3), (1, (2,)), (1, -1, (1,)), ((),), ((0, 2), (5, 5)),
    ([1],), (1, [2]), ({},), (1, {1}), (EqualToAll(),), (1, Unhashable()), (unittest.mock.ANY,),
    [1, -1, 2], [3, -2, 1], (((((((((1,),),),),),),),),),
]

WRONG_TEXTS = ODD_VALUES + [
    "", "\n", "b\n", "\nb", "b\nb", "bo\n", " ", "b ", " b", "b b",
    "B", "O", "F", "BOF", "Bo", "bO", "bF", "x", "bx", "xb", "a", "boofa", "b,o", "~", "1", "-1",
    "o", "ob", "of", "oo", "obf", "fo", "foo", "bfo", "bofo", "fob", "ffo", "bfbfo", "bofob",
    "b" * 61, "f" * 61, "b" + "o" * 60, "bf" * 30 + "b", "f" + "b" * 60, "b" * 2000,
    "o" * 60, "f" * 59 + "o", "b" * 59 + "\n", "b" * 60 + "\n",
    ("b",), ("b", "o"), ["b", "o"], (1,), (3, -2, 1), (),
]

WRONG_PLANS = ODD_VALUES + [
    "", "Behind", "BEHIND", "behind ", " behind", "behind\n", "behin", "behindfront", "back",
    "Any", "an", "all", "join", "pack", "packed joined", "any,any", "b",
    (), ("any",), ("behind", "front"), (1,), (1, -1), ["behind"],
]

WRONG_KINDS = ODD_VALUES + [
    "", "Filling", "FILLING", "filling ", " filling", "filling\n", "fillin", "fillings", "f",
    "row", "true", "any", "behind", "late", "early", "lateer", "other,strange", "later earlier",
    (), ("other",), ("later", "earlier"), (1,), ["filling"],
]

WRONG_NUMBERS = [value for value in ODD_VALUES if not (type(value) is int and 1 <= value <= 6)] + [
    7, 8, 60, -2, -6, "1", "", (1,), (), [1], NESTED,
]

# What is an index of no program.
WRONG_INDEXES = [value for value in ODD_VALUES if not (type(value) is int and 0 <= value <= 3)] + [
    4, 5, -1, -2, -4, "0", "", (0,), (), [0], (1, 0),
]

# No tuples of layers.
WRONG_LAYERS = [value for value in ODD_VALUES if not isinstance(value, tuple)] + [
    "", "clear", "look row back 1", ["clear"], {"clear": 1}, 0, True,
]

# What is no layer in a tuple of them.
NO_LAYERS = ODD_VALUES + [
    "", "clear ", " clear", "clear own", "look row back", "look row back 4", "look row back 0",
    "add row back 1 own", "look line first", "look row at all back", "look row at 1 back every 2",
    "look row back 1 every 4", "look row back 1 for true own", "look  row back 1", "Clear",
    "look row back 1\n", "clear\nclear", ("clear",), ["clear"], (), 1, NESTED,
]

WRONG_PROGRAMS = ODD_VALUES + [
    "", "clear", "look row back 1", (), ("clear",), ["clear"], ("look row back 1", "clear"),
    (1, -1), NESTED,
]


def written_layers():
    """All ways in which a layer can be written."""
    found = ["clear"]
    for scope in ("row", "true", "line"):
        ranges = [f"{way} {near}{every}" for way in ("back", "ahead", "around")
                  for near in ("1", "2", "3", "all") for every in ("", " every 2", " every 3")]
        ranges += [f"at {near} {way}" for near in "123" for way in ("back", "ahead")]
        ranges += ["first", "last"] if scope == "row" else []
        for words in ranges:
            found += [f"look {scope} {words}{own}{for_true}" for own in ("", " own")
                      for for_true in ("", " for true")]
            found += [f"add {scope} {words}{for_true}" for for_true in ("", " for true")]
    return found


LAYERS = written_layers()
LAYERS_WRITTEN = set(LAYERS)


def layer_width(layer):
    """The width of a layer."""
    if layer == "clear":
        return 0
    words = layer.split(" ")
    if words[2] in ("first", "last"):
        return 1
    if words[3] == "all":
        return int(words[5]) if words[4:5] == ["every"] else 1
    return int(words[3])


# Drawn ones are made of layers of all widths alike, so that several fit into one program.
LAYERS_BY_WIDTH = {width: [layer for layer in LAYERS if layer_width(layer) == width]
                   for width in range(4)}


def drawn_programs(draw, many, *, widest=8):
    """The layers of so many programs, of one to four layers and no wider than this."""
    found = []
    while len(found) < many:
        layers = tuple(draw.choice(LAYERS_BY_WIDTH[draw.choice((0, 1, 1, 1, 2, 2, 3))])
                       for _ in range(draw.randint(1, 4)))
        if sum(map(layer_width, layers)) <= widest:
            found.append(layers)
    return found


def changed_layer(draw, layer):
    """A layer that is written much like this one."""
    words = layer.split(" ")
    while True:
        found = list(words)
        at = draw.randrange(len(found))
        if draw.random() < 0.3:
            del found[at:]
            found += draw.choice((words[at + 1:], ["own"], ["for", "true"], ["every", "2"], []))
        else:
            found[at] = draw.choice("clear look add row true line back ahead around 1 2 3 all".split())
        found = " ".join(found)
        if found != layer and found in LAYERS_WRITTEN:
            return found
        if draw.random() < 0.05:
            return draw.choice(LAYERS)


def changed_layers(draw, layers):
    """The layers of a program that is made much like this one."""
    while True:
        found = list(layers)
        way = draw.random()
        at = draw.randrange(len(found))
        if way < 0.6:
            found[at] = changed_layer(draw, found[at])
        elif way < 0.75:
            del found[at]
        elif way < 0.9:
            found.insert(at, "clear")
        else:
            draw.shuffle(found)
        if 1 <= len(found) <= 4 and sum(map(layer_width, found)) <= 8:
            return tuple(found)


def drawn_lines(draw, many, longest):
    """So many lines of up to so many places."""
    found = []
    while len(found) < many:
        left = draw.randint(1, longest)
        line = []
        while left:
            size = draw.randint(1, min(left, draw.choice((1, 3, 10, 60))))
            line.append(-size if draw.random() < 0.4 and not (line and line[-1] < 0) else size)
            left -= size
        found.append(tuple(line))
    return found


def size(line):
    """How many places the line has."""
    return sum(map(abs, line))


def is_of_plan(line, plan):
    """Whether the line is one of the plan."""
    filled = [piece < 0 for piece in line]
    return {
        "behind": filled in ([False], [False, True]),
        "front": filled in ([False], [True, False]),
        "joined": not any(filled),
        "packed": not any(filled[:-1]) and filled != [True],
        "any": True,
    }[plan]


PLANS_OF = {line: [plan for plan in PLANS if is_of_plan(line, plan)] for line in LINES}


@functools.lru_cache(maxsize=None)
def places(line):
    """For each place of the line the index of its piece, and whether it is a true one."""
    return [(index, piece > 0) for index, piece in enumerate(line) for _ in range(abs(piece))]


def in_range(words, every, x, z):
    """Whether z is in a RANGE for x, other than first and last."""
    if words[0] == "at":
        return z == (x - int(words[1]) if words[2] == "back" else x + int(words[1]))
    far = 1000 if words[1] == "all" else int(words[1])
    back = x - far <= z < x
    ahead = x < z <= x + far
    fits = {"back": back, "ahead": ahead, "around": back or ahead}[words[0]]
    return fits and (every is None or (x - z) % int(every) == 0)


@functools.lru_cache(maxsize=None)
def parts(layer):
    """The words of a layer that is not clear: scope, those of RANGE, M, own, for true."""
    found = re.fullmatch(
        "(look|add) (row|true|line) (.*?)(?: every ([23]))?( own)?( for true)?", layer)
    return found[2], found[3].split(" "), found[4], found[1] == "add" or bool(found[5]), bool(found[6])


def plain_looks(layer, line, x, z):
    """Whether x looks at z in this layer."""
    if layer == "clear":
        return False
    scope, words, every, _, _ = parts(layer)
    told = places(line)
    same_row = told[x] == told[z] and told[x][1]
    if words[0] in ("first", "last"):
        row = [place for place in range(len(told)) if told[place] == told[x]]
        return same_row and z == (row[0] if words[0] == "first" else row[-1])
    if not in_range(words, every, x, z):
        return False
    return {"row": same_row, "true": told[z][1], "line": True}[scope]


def plain_taken(layer, line):
    """For each place the set of those from which it takes."""
    found = []
    told = places(line)
    for x in range(len(told)):
        if layer == "clear":
            found.append({x} if told[x][1] else set())
        elif parts(layer)[4] and not told[x][1]:
            found.append({x})
        else:
            looked = {z for z in range(len(told)) if plain_looks(layer, line, x, z)}
            found.append(looked | {x} if parts(layer)[3] else looked)
    return found


def plain_round(layers, line, holds):
    """For each place the set of those that it holds behind a further round."""
    for layer in layers:
        holds = [set().union(*[holds[z] for z in taken]) for taken in plain_taken(layer, line)]
    return holds


def plain_held(layers, line, rounds):
    """For each place the set of those that it holds; for None, behind some number of rounds."""
    holds = [{place} for place in range(len(places(line)))]
    if rounds is not None:
        for _ in range(rounds):
            holds = plain_round(layers, line, holds)
        return holds
    # Once the same is held again, nothing comes that was not there before.
    found = []
    while holds not in found:
        found.append(holds)
        holds = plain_round(layers, line, holds)
    return [set().union(*each) for each in zip(*found[1:], holds)]


def plain_alone(layers, line, rounds):
    """For each true place the set of those that it holds alone; for filling places the empty one."""
    found = []
    for piece in line:
        first = len(found)
        if piece > 0:
            row = plain_held(layers, (piece,), rounds)
            found.extend({first + place for place in held} for held in row)
        else:
            found.extend(set() for _ in range(-piece))
    return found


def as_tuples(sets):
    """Sets of places as the program tells them."""
    return tuple(tuple(sorted(places)) for places in sets)


def of_kind(kind, line, x, y):
    """Whether x is a true place and y of the kind for it."""
    told = places(line)
    same_row = told[x] == told[y]
    return told[x][1] and {
        "filling": not told[y][1],
        "other": told[y][1] and not same_row,
        "strange": not same_row,
        "later": same_row and y > x,
        "earlier": same_row and y < x,
    }[kind]
