"""Tests of filledrows.programs."""

import copy
import itertools
import random
import unittest

from filledrows import programs
from filledrows.errors import InvalidIndex, InvalidLayers, InvalidText, NotAProgram, WrongRow
from filledrows.programs import Program
from tests.samples import (LAYERS, LAYERS_BY_WIDTH, NESTED, ODD_VALUES, WRONG_INDEXES,
                           WRONG_PROGRAMS, EqualToAll, Unhashable, WrongArguments, layer_width)

RIGHT = set(LAYERS)

WORDS = ("clear", "look", "add", "row", "true", "line", "back", "ahead", "around", "at", "first",
         "last", "1", "2", "3", "all", "every", "own", "for")

OTHER_WORDS = ("", " ", "0", "4", "5", "-1", "01", "1.", "10", "Look", "ADD", "Row", "All", "x",
               "none", "1\n", "\n", "own,", "forTrue", "\n1", "looks", "~", "every2")

WIDE = ("look line back 1 own", "look line ahead 1 own")

WIDTHS = {
    "clear": 0,
    "look row first": 1,
    "look row last own for true": 1,
    "look row back 1": 1,
    "add true around 2": 2,
    "look line ahead 3 own": 3,
    "add line at 1 back": 1,
    "look row at 2 ahead own": 2,
    "look true at 3 back for true": 3,
    "look true back all": 1,
    "add line around all every 2": 2,
    "look row ahead all every 3 own for true": 3,
    "look line back 1 every 3": 1,
    "look line around 2 every 3": 2,
    "add row ahead 3 every 2 for true": 3,
}


def changed_words(layer):
    """All that comes of this layer by a small change."""
    words = layer.split(" ")
    for k in range(len(words)):
        yield words[:k] + words[k + 1:]
        yield words[:k] + [words[k]] + words[k:]
        yield words[:k] + [words[k].upper()] + words[k + 1:]
        yield words[:k] + [words[k].capitalize()] + words[k + 1:]
        yield words[:k] + [words[k] + "s"] + words[k + 1:]
        yield words[:k] + [words[k][:-1]] + words[k + 1:]
        for other in WORDS + OTHER_WORDS:
            yield words[:k] + [other] + words[k + 1:]
        for other in range(k):
            exchanged = list(words)
            exchanged[k], exchanged[other] = words[other], words[k]
            yield exchanged
    for k in range(len(words) + 1):
        for other in WORDS + ("", "\n"):
            yield words[:k] + [other] + words[k:]
    for tail in (["every", "2"], ["every", "3"], ["own"], ["for", "true"], ["own", "for", "true"]):
        yield words + tail


def changed_texts(layer):
    """All strings that come of this layer by a small change."""
    found = [" ".join(words) for words in changed_words(layer)]
    return found + [layer + "\n", "\n" + layer, " " + layer, layer + " ", layer.replace(" ", "  "),
                    layer.replace(" ", "\n"), layer.replace(" ", ""), layer[:-1], layer[1:],
                    layer + "\n" + layer, layer.upper(), layer.swapcase(), layer + "."]


def first_wrong(layers):
    """The index of the first layer that is not right, or None."""
    width = 0
    for index, layer in enumerate(layers):
        if index == 4 or layer not in RIGHT:
            return index
        width += layer_width(layer)
        if width > 8:
            return index
    return None


def drawn_layers(draw, many):
    """So many layers, of all widths alike."""
    return tuple(draw.choice(LAYERS_BY_WIDTH[draw.randrange(4)]) for _ in range(many))


class Layers(WrongArguments):

    def assert_layer(self, text):
        program = Program((text,))
        self.assertEqual(program.layers, (text,))
        self.assertEqual(str(program), text)
        self.assertEqual(Program.read(text).layers, (text,))
        self.assertEqual(Program(("clear", text)).layers, ("clear", text))

    def assert_no_layer(self, text):
        self.assert_told(InvalidLayers, 0, lambda: Program((text,)))
        self.assert_told(InvalidLayers, 1, lambda: Program(("clear", text)))
        if "\n" not in text:
            self.assert_told(WrongRow, 0, lambda: Program.read(text))

    def test_there_are_so_many_ways_to_write_one(self):
        looks = 4 * (3 * (3 * 4 * 3 + 6) + 2)
        self.assertEqual((len(LAYERS), len(RIGHT)), (1 + looks + looks // 2, 769))

    def test_each_way_to_write_one(self):
        for layer in LAYERS:
            with self.subTest(layer):
                self.assert_layer(layer)

    def test_all_rows_of_up_to_four_words(self):
        for many in range(1, 5):
            for words in itertools.product(WORDS, repeat=many):
                text = " ".join(words)
                if text in RIGHT:
                    self.assert_layer(text)
                else:
                    self.assert_told(InvalidLayers, 0, lambda: Program((text,)))

    def test_small_changes_of_each(self):
        texts = {text for layer in LAYERS for text in changed_texts(layer)}
        self.assertGreater(len(texts), 100000)
        for text in texts:
            if text in RIGHT:
                self.assert_layer(text)
            else:
                self.assert_told(InvalidLayers, 0, lambda: Program((text,)))

    def test_small_changes_of_some_in_each_way(self):
        for layer in random.Random(1).sample(LAYERS, 20) + ["clear", "look row first"]:
            for text in changed_texts(layer):
                if text not in RIGHT:
                    self.assert_no_layer(text)

    def test_what_is_written_wrongly(self):
        for text in ("", " ", "\n", "look", "add", "clear clear", "clear own", "clear for true",
                     "clear row", "look clear", "look row", "look row back", "look row 1",
                     "look row back 0", "look row back 4", "look row back all all", "look back 1",
                     "look row at 4 back", "look row at all back", "look row at 1 around",
                     "look row at 1", "look row at back 1", "look row at 2 back every 2",
                     "look true first", "look line last", "add true last", "add line first",
                     "look row first every 2", "look row last every 3", "look row first 1",
                     "look row back 2 every 1", "look row back 2 every 4", "look row back 2 every",
                     "look row back 2 every all", "look row back 2 every 2 every 3",
                     "look row every 2 back 2", "look row back every 2", "add row back 1 own",
                     "add row first own", "look row back 1 for true own", "look row back 1 own own",
                     "look row back 1 own every 2", "look row back 1 for true every 2",
                     "look row back 1 for true for true", "look row back 1 for", "look row back 1 true",
                     "look row back 1 for line", "own look row back 1", "Look row back 1",
                     "look Row back 1", "look row back 1 Own", "look row back 1 for True", "CLEAR"):
            with self.subTest(text):
                self.assert_no_layer(text)


class Widths(WrongArguments):

    def test_the_width_of_a_layer(self):
        for layer, width in WIDTHS.items():
            with self.subTest(layer):
                self.assertEqual(layer_width(layer), width)
                fits = 8 - width
                for filler in itertools.product((0, 1, 2, 3), repeat=3):
                    layers = tuple(LAYERS_BY_WIDTH[wide][0] for wide in filler) + (layer,)
                    if sum(filler) <= fits:
                        self.assertEqual(Program(layers).layers, layers)
                    elif sum(filler) <= 8:
                        self.assert_told(InvalidLayers, 3, lambda: Program(layers))

    def test_width_eight_and_nine(self):
        for widths in itertools.product(range(4), repeat=4):
            layers = tuple(LAYERS_BY_WIDTH[width][-1] for width in widths)
            if sum(widths) <= 8:
                self.assertEqual(Program(layers).layers, layers)
                self.assertEqual(Program.read("\n".join(layers)).layers, layers)
            else:
                wrong = 2 if sum(widths[:3]) > 8 else 3
                self.assert_told(InvalidLayers, wrong, lambda: Program(layers))
                self.assert_told(WrongRow, wrong, lambda: Program.read("\n".join(layers)))

    def test_the_first_one_with_which_it_is_too_wide(self):
        three, two = "look row back 3", "look row at 2 back"
        for layers, wrong in (((three, three, three), 2), ((three, three, three, "clear"), 2),
                              ((three, three, two, "look row first"), 3),
                              ((three, three, three, "no layer"), 2),
                              ((three, "no layer", three, three), 1),
                              ((three, three, two, "add row first", three), 3),
                              ((three, three, two, "clear", three), 4)):
            self.assert_told(InvalidLayers, wrong, lambda: Program(layers))
            self.assert_told(WrongRow, wrong, lambda: Program.read("\n".join(layers)))


class Made(WrongArguments):

    def test_the_examples_of_the_interface(self):
        wide = Program(WIDE)
        self.assertEqual(len(wide), 2)
        self.assertEqual(wide.layers[1], "look line ahead 1 own")
        self.assertEqual(str(wide), "look line back 1 own\nlook line ahead 1 own")
        self.assertIs(Program.read(str(wide)) == wide, True)
        self.assertEqual(wide.without(0).layers, ("look line ahead 1 own",))
        self.assert_told(InvalidLayers, 0, lambda: Program(("look row back 4",)))

    def test_one_to_four_layers(self):
        for many in range(1, 5):
            for layers in itertools.product(("clear", "look row first", "add true back 2"), repeat=many):
                program = Program(layers)
                self.assertEqual(program.layers, layers)
                self.assertIs(type(program.layers), tuple)
                self.assertEqual(len(program), many)
                self.assertEqual(str(program), "\n".join(layers))

    def test_drawn_ones(self):
        draw = random.Random(2)
        for _ in range(3000):
            layers = list(drawn_layers(draw, draw.randint(1, 6)))
            if draw.random() < 0.2:
                layers[draw.randrange(len(layers))] = draw.choice(("", "clear ", "look row back 4"))
            layers = tuple(layers)
            wrong = first_wrong(layers)
            if wrong is None:
                self.assertEqual(Program(layers).layers, layers)
                self.assertEqual(Program.read("\n".join(layers)).layers, layers)
            else:
                self.assert_told(InvalidLayers, wrong, lambda: Program(layers))
                self.assert_told(WrongRow, wrong, lambda: Program.read("\n".join(layers)))

    def test_by_name(self):
        self.assertEqual(Program(layers=WIDE).layers, WIDE)
        self.assertEqual(Program.read(text="\n".join(WIDE)).layers, WIDE)

    def test_a_fifth_layer(self):
        for fifth in ("clear", "look row first", "no layer", "", None, 5, NESTED):
            self.assert_told(InvalidLayers, 4, lambda: Program(("clear",) * 4 + (fifth,)))
            self.assert_told(InvalidLayers, 4, lambda: Program(("clear",) * 4 + (fifth, "clear")))
        self.assert_told(InvalidLayers, 3, lambda: Program(("clear",) * 3 + ("Clear", "clear")))
        self.assert_told(WrongRow, 4, lambda: Program.read("\n".join(["clear"] * 5)))
        self.assert_told(WrongRow, 4, lambda: Program.read("\n".join(["clear"] * 4) + "\n"))

    def test_values_that_are_no_tuple_or_empty(self):
        for value in ODD_VALUES + ["", "clear", ["clear"], list(WIDE), {"clear": 1}, Program(WIDE), ()]:
            with self.subTest(repr(value)):
                self.assert_told(InvalidLayers, None, lambda: Program(value))
                self.assert_told(InvalidLayers, None, lambda: Program(layers=value))

    def test_values_in_a_tuple_that_are_no_layer(self):
        for value in ODD_VALUES + ["", (), ("clear",), ["clear"], b"clear", NESTED, Program(WIDE)]:
            with self.subTest(repr(value)):
                self.assert_told(InvalidLayers, 0, lambda: Program((value,)))
                self.assert_told(InvalidLayers, 0, lambda: Program((value, "clear", "no layer")))
                self.assert_told(InvalidLayers, 1, lambda: Program(("clear", value)))
                self.assert_told(InvalidLayers, 3, lambda: Program(("clear",) * 3 + (value,)))


class Read(WrongArguments):

    def test_the_index_of_the_first_row_that_is_wrong(self):
        for text, wrong in (("", 0), ("\n", 0), ("clear\n", 1), ("\nclear", 0), ("clear\n\nclear", 1),
                            ("clear\nclear\n", 2), ("clear\nlook row back 4\nlook", 1),
                            ("clear\r\nclear", 0), ("clear clear", 0), ("clear\n clear", 1),
                            ("look row\nfirst", 0), ("clear\n\n\n\n\n", 1)):
            with self.subTest(repr(text)):
                self.assert_told(WrongRow, wrong, lambda: Program.read(text))
                self.assert_told(WrongRow, wrong, lambda: Program.read(text=text))

    def test_values_that_are_no_string(self):
        for value in ODD_VALUES + [(), ("clear",), ["clear"], b"clear", NESTED, Program(WIDE)]:
            with self.subTest(repr(value)):
                self.assert_given(InvalidText, value, lambda: Program.read(value))
                self.assert_given(InvalidText, value, lambda: Program.read(text=value))

    def test_it_takes_a_text_back(self):
        draw = random.Random(3)
        for _ in range(500):
            layers = drawn_layers(draw, draw.randint(1, 4))
            if first_wrong(layers) is None:
                text = "\n".join(layers)
                self.assertEqual(str(Program.read(text)), text)
                self.assertIs(type(str(Program.read(text))), str)


class Equality(unittest.TestCase):

    def test_two_programs_are_equal_if_their_layers_are(self):
        some = [("clear",), ("clear", "clear"), WIDE, tuple(reversed(WIDE)), WIDE[:1],
                ("look row back 1",), ("look row back 1 every 2",), ("look row at 1 back",)]
        for one, other in itertools.product(some, repeat=2):
            self.assertIs(Program(one) == Program(tuple(list(other))), one == other)
            self.assertIs(Program(one) != Program(tuple(list(other))), one != other)

    def test_one_that_does_the_same_is_not_equal(self):
        self.assertIs(Program(("look row back 1 own",)) == Program(("add row back 1",)), False)

    def test_a_program_is_equal_to_nothing_else(self):
        program = Program(("clear",))
        for value in ODD_VALUES + ["clear", ("clear",), ["clear"], NESTED, "", ()]:
            with self.subTest(repr(value)):
                self.assertIs(program == value, False)
                self.assertIs(program != value, True)
                if not isinstance(value, (EqualToAll, Unhashable)) and "ANY" not in repr(value):
                    self.assertIs(value == program, False)
                    self.assertIs(value != program, True)

    def test_every_program_is_true(self):
        for layers in (("clear",), WIDE, ("clear",) * 4):
            self.assertIs(bool(Program(layers)), True)


class Other(WrongArguments):

    def test_then(self):
        draw = random.Random(4)
        for _ in range(1500):
            first = drawn_layers(draw, draw.randint(1, 3))
            second = drawn_layers(draw, draw.randint(1, 3))
            if first_wrong(first) is None and first_wrong(second) is None:
                one, other = Program(first), Program(second)
                wrong = first_wrong(first + second)
                if wrong is None:
                    self.assertEqual(one.then(other).layers, first + second)
                    self.assertIs(type(one.then(other=other)), Program)
                else:
                    self.assert_told(InvalidLayers, wrong, lambda: one.then(other))
                    self.assert_told(InvalidLayers, wrong, lambda: one.then(other=other))
                self.assertEqual((one.layers, other.layers), (first, second))

    def test_then_with_itself(self):
        wide = Program(WIDE)
        self.assertEqual(wide.then(wide).layers, WIDE + WIDE)
        self.assert_told(InvalidLayers, 4, lambda: wide.then(wide).then(wide))
        broad = Program(("look row back 3", "look row back 2"))
        self.assert_told(InvalidLayers, 3, lambda: broad.then(broad))

    def test_then_with_what_is_no_program(self):
        for value in WRONG_PROGRAMS:
            with self.subTest(repr(value)):
                self.assert_given(NotAProgram, value, lambda: Program(WIDE).then(value))
                self.assert_given(NotAProgram, value, lambda: Program(("clear",) * 4).then(other=value))

    def test_changed(self):
        program = Program(("look row back 3", "clear", "add true ahead 2"))
        self.assertEqual(program.changed(1, "look row first").layers,
                         ("look row back 3", "look row first", "add true ahead 2"))
        self.assertEqual(program.changed(layer="clear", index=0).layers,
                         ("clear", "clear", "add true ahead 2"))
        self.assertEqual(program.changed(2, layer="look row back 3").layers,
                         ("look row back 3", "clear", "look row back 3"))
        self.assertEqual(program.layers, ("look row back 3", "clear", "add true ahead 2"))

    def test_changed_to_what_is_too_wide_tells_the_index_that_was_passed(self):
        program = Program(("look row back 2", "look row back 3", "add true ahead 3"))
        for layer in ("look row back 3", "look line around all every 3", "look true at 3 back"):
            self.assert_told(InvalidLayers, 0, lambda: program.changed(0, layer))
        self.assertEqual(program.changed(0, "look row first").layers[0], "look row first")
        self.assertEqual(program.changed(1, "add row back 3").layers[1], "add row back 3")

    def test_changed_drawn(self):
        draw = random.Random(5)
        for _ in range(1000):
            layers = drawn_layers(draw, draw.randint(1, 4))
            if first_wrong(layers) is None:
                index = draw.randrange(len(layers))
                (layer,) = drawn_layers(draw, 1)
                wanted = layers[:index] + (layer,) + layers[index + 1:]
                if first_wrong(wanted) is None:
                    self.assertEqual(Program(layers).changed(index, layer).layers, wanted)
                else:
                    call = lambda: Program(layers).changed(index, layer)
                    self.assert_told(InvalidLayers, index, call)

    def test_changed_to_what_is_no_layer(self):
        program = Program(WIDE)
        for value in ODD_VALUES + ["", "clear ", "clear\nclear", "look row back 4", (), ("clear",), NESTED]:
            with self.subTest(repr(value)):
                self.assert_told(InvalidLayers, 1, lambda: program.changed(1, value))
                self.assert_told(InvalidLayers, 0, lambda: program.changed(index=0, layer=value))

    def test_without(self):
        layers = ("look row back 3", "clear", "add true ahead 2", "look row last")
        program = Program(layers)
        for index in range(4):
            wanted = layers[:index] + layers[index + 1:]
            self.assertEqual(program.without(index).layers, wanted)
            self.assertEqual(program.without(index=index).layers, wanted)
        self.assertEqual(program.layers, layers)

    def test_without_the_last_layer_that_is_left(self):
        self.assert_told(InvalidLayers, None, lambda: Program(("clear",)).without(0))
        self.assert_told(InvalidLayers, None, lambda: Program(("clear",)).without(index=0))

    def test_wrong_indexes(self):
        for layers in (("clear",), WIDE, ("clear",) * 4):
            program = Program(layers)
            beyond = [index for index in range(4) if index >= len(layers)]
            for index in WRONG_INDEXES + beyond:
                with self.subTest(repr(index)):
                    self.assert_given(InvalidIndex, index, lambda: program.without(index))
                    self.assert_given(InvalidIndex, index, lambda: program.without(index=index))
                    for layer in ("clear", "no layer", None, NESTED):
                        call = lambda: program.changed(index, layer)
                        self.assert_given(InvalidIndex, index, call)
                        call = lambda: program.changed(layer=layer, index=index)
                        self.assert_given(InvalidIndex, index, call)


class Form(WrongArguments):

    def test_the_layers_cannot_be_set(self):
        program = Program(WIDE)
        with self.assertRaises(AttributeError):
            program.layers = ("clear",)
        self.assertEqual(program.layers, WIDE)

    def test_the_methods_are_defined_in_the_class(self):
        for name in ("read", "layers", "then", "changed", "without", "__len__", "__str__", "__eq__"):
            self.assertIn(name, vars(Program))
        self.assertIsInstance(vars(Program)["read"], classmethod)
        self.assertIsInstance(vars(Program)["layers"], property)
        self.assertEqual(Program.__module__, programs.__name__)

    def test_what_is_passed_is_not_changed(self):
        for wrong in (["clear"], (["clear"],), ({"a": [1]},), {"clear": [1]}):
            before = copy.deepcopy(wrong)
            with self.assertRaises(InvalidLayers):
                Program(wrong)
            self.assert_given(InvalidText, wrong, lambda: Program.read(wrong))
            self.assert_given(NotAProgram, wrong, lambda: Program(WIDE).then(wrong))
            self.assert_given(InvalidIndex, wrong, lambda: Program(WIDE).without(wrong))
            self.assertEqual(wrong, before)

    def test_a_call_after_an_error_is_as_before(self):
        program = Program(WIDE)
        with self.assertRaises(InvalidLayers):
            program.changed(0, "no layer")
        self.assertEqual(program.changed(0, "clear").layers, ("clear", WIDE[1]))
        self.assertEqual(program.layers, WIDE)


if __name__ == "__main__":
    unittest.main()
