"""Tests of filledrows.running."""

import copy
import random
import unittest

from filledrows import running
from filledrows.errors import InvalidIndex, InvalidLine, InvalidNumber, NotAProgram
from filledrows.programs import Program
from filledrows.running import alone, held, taken
from tests.samples import (LAYERS, LONG_LINES, SHORT_LINES, WRONG_INDEXES, WRONG_LINES,
                           WRONG_NUMBERS, WRONG_PROGRAMS, WrongArguments, as_tuples, drawn_lines,
                           drawn_programs, plain_alone, plain_held, plain_taken)

LINES = [line for line in SHORT_LINES if sum(map(abs, line)) <= 4]

WIDE = Program(("look line back 1 own", "look line ahead 1 own"))
CLEAN = Program(("look line back 1 own", "clear", "look line ahead 1 own"))

# Each layer with what the places of a line take in it.
TAKEN = [
    ("clear", (2, -1, 1), ((0,), (1,), (), (3,))),
    ("look row back 1", (2, 2, -1), ((), (0,), (), (2,), ())),
    ("look row back all own", (3, 1), ((0,), (0, 1), (0, 1, 2), (3,))),
    ("look row around 1 for true", (3, -1), ((1,), (0, 2), (1,), (3,))),
    ("add row ahead 2", (4, -1), ((0, 1, 2), (1, 2, 3), (2, 3), (3,), (4,))),
    ("look true back 2", (1, -2, 1), ((), (0,), (0,), ())),
    ("look true at 3 back", (1, -2, 1), ((), (), (), (0,))),
    ("add true at 1 ahead for true", (-1, 1, 1), ((0,), (1, 2), (2,))),
    ("look line around 3 every 2", (2, -1, 2), ((2,), (3,), (0, 4), (1,), (2,))),
    ("look line back all every 3", (-1, 6), ((), (), (), (0,), (1,), (2,), (0, 3))),
    ("look line ahead 1 every 2", (2, -1), ((), (), ())),
    ("look line ahead 3 every 3 own", (4, -1), ((0, 3), (1, 4), (2,), (3,), (4,))),
    ("look row first", (2, -1, 2), ((0,), (0,), (), (3,), (3,))),
    ("look row last", (2, -1, 2), ((1,), (1,), (), (4,), (4,))),
    ("look row last own for true", (3, -1), ((0, 2), (1, 2), (2,), (3,))),
    ("add row first", (2, -1, 1), ((0,), (0, 1), (2,), (3,))),
    ("add line around all for true", (1, -1, 1), ((0, 1, 2), (1,), (0, 1, 2))),
    ("look true around all", (1, -1, 1), ((2,), (0, 2), (0,))),
]


class Taken(WrongArguments):

    def test_the_example_of_the_interface(self):
        self.assertEqual(taken(WIDE, 0, (2, -2)), ((0,), (0, 1), (1, 2), (2, 3)))

    def test_some_layers(self):
        for layer, line, wanted in TAKEN:
            with self.subTest(layer):
                self.assertEqual(taken(Program((layer,)), 0, line), wanted)
                self.assertEqual(as_tuples(plain_taken(layer, line)), wanted)

    def test_each_layer_on_all_short_lines(self):
        for layer in LAYERS:
            program = Program((layer,))
            for line in LINES:
                wanted = as_tuples(plain_taken(layer, line))
                self.assertEqual(taken(program, 0, line), wanted, (layer, line))

    def test_each_layer_on_longer_lines(self):
        draw = random.Random(1)
        for layer in LAYERS:
            for line in drawn_lines(draw, 3, 14):
                wanted = as_tuples(plain_taken(layer, line))
                self.assertEqual(taken(Program((layer,)), 0, line), wanted, (layer, line))

    def test_long_lines(self):
        draw = random.Random(2)
        for line, *_ in LONG_LINES:
            for layer in draw.sample(LAYERS, 12):
                wanted = as_tuples(plain_taken(layer, line))
                self.assertEqual(taken(Program((layer,)), 0, line), wanted, (layer, line))

    def test_each_index(self):
        layers = ("look row back 1", "clear", "add true ahead all", "look row first")
        for index, layer in enumerate(layers):
            for line in ((2, -1, 2), (-2, 3)):
                wanted = as_tuples(plain_taken(layer, line))
                self.assertEqual(taken(Program(layers), index, line), wanted)

    def test_by_name(self):
        self.assertEqual(taken(line=(2, -2), index=1, program=WIDE), ((0, 1), (1, 2), (2, 3), (3,)))
        self.assertEqual(taken(WIDE, 1, line=(2, -2)), ((0, 1), (1, 2), (2, 3), (3,)))


class Held(WrongArguments):

    def test_the_examples_of_the_interface(self):
        self.assertEqual(held(WIDE, (2, -2)), ((0, 1), (0, 1, 2), (1, 2, 3), (2, 3)))
        self.assertEqual(held(CLEAN, (2, -2)), ((0, 1), (0, 1), (), ()))
        self.assertEqual(held(Program(("add row back 1",)), (3, 2), rounds=2),
                         ((0,), (0, 1), (0, 1, 2), (3,), (3, 4)))

    def test_drawn_programs_on_short_lines(self):
        draw = random.Random(3)
        for layers in drawn_programs(draw, 150):
            program = Program(layers)
            for line in draw.sample(SHORT_LINES, 20):
                for rounds in (1, 2, draw.randint(3, 6)):
                    wanted = as_tuples(plain_held(layers, line, rounds))
                    self.assertEqual(held(program, line, rounds=rounds), wanted, (layers, line))

    def test_some_programs_on_all_short_lines(self):
        draw = random.Random(4)
        for layers in drawn_programs(draw, 12):
            for line in SHORT_LINES:
                for rounds in range(1, 7):
                    wanted = as_tuples(plain_held(layers, line, rounds))
                    self.assertEqual(held(Program(layers), line, rounds=rounds), wanted)

    def test_drawn_programs_on_long_lines(self):
        draw = random.Random(5)
        for layers in drawn_programs(draw, 25):
            for line in drawn_lines(draw, 2, 60):
                rounds = draw.randint(1, 6)
                wanted = as_tuples(plain_held(layers, line, rounds))
                self.assertEqual(held(Program(layers), line, rounds=rounds), wanted, (layers, line))

    def test_one_round_is_meant_where_none_is_named(self):
        for line in SHORT_LINES:
            self.assertEqual(held(CLEAN, line), held(CLEAN, line, rounds=1))

    def test_six_rounds_of_one_place_each(self):
        program = Program(("look line at 1 back",))
        for rounds in range(1, 7):
            wanted = ((),) * rounds + tuple((place,) for place in range(10 - rounds))
            self.assertEqual(held(program, (10,), rounds=rounds), wanted)

    def test_by_name(self):
        self.assertEqual(held(line=(2, -2), program=WIDE), ((0, 1), (0, 1, 2), (1, 2, 3), (2, 3)))
        self.assertEqual(held(rounds=1, line=(2, -2), program=CLEAN), ((0, 1), (0, 1), (), ()))


class Alone(WrongArguments):

    def test_the_example_of_the_interface(self):
        self.assertEqual(alone(WIDE, (2, -2)), ((0, 1), (0, 1), (), ()))

    def test_drawn_programs_on_short_lines(self):
        draw = random.Random(6)
        for layers in drawn_programs(draw, 150):
            for line in draw.sample(SHORT_LINES, 20):
                for rounds in (1, draw.randint(2, 6)):
                    wanted = as_tuples(plain_alone(layers, line, rounds))
                    self.assertEqual(alone(Program(layers), line, rounds=rounds), wanted, layers)

    def test_some_programs_on_all_short_lines(self):
        draw = random.Random(7)
        for layers in drawn_programs(draw, 12):
            for line in SHORT_LINES:
                wanted = as_tuples(plain_alone(layers, line, 2))
                self.assertEqual(alone(Program(layers), line, rounds=2), wanted, (layers, line))

    def test_drawn_programs_on_long_lines(self):
        draw = random.Random(8)
        for layers in drawn_programs(draw, 25):
            for line in drawn_lines(draw, 2, 60):
                rounds = draw.randint(1, 6)
                wanted = as_tuples(plain_alone(layers, line, rounds))
                self.assertEqual(alone(Program(layers), line, rounds=rounds), wanted, (layers, line))

    def test_what_a_row_that_is_the_whole_line_holds(self):
        for size in (1, 2, 5, 60):
            for rounds in (1, 3):
                self.assertEqual(alone(WIDE, (size,), rounds=rounds), held(WIDE, (size,), rounds=rounds))

    def test_filling_places_hold_nothing_alone(self):
        program = Program(("add line around all",))
        self.assertEqual(alone(program, (-3,)), ((), (), ()))
        self.assertEqual(alone(program, (-1, 2, -1, 1)), ((), (1, 2), (1, 2), (), (4,)))

    def test_one_round_is_meant_where_none_is_named(self):
        for line in SHORT_LINES:
            self.assertEqual(alone(WIDE, line), alone(WIDE, line, rounds=1))

    def test_by_name(self):
        self.assertEqual(alone(rounds=2, line=(1, 3), program=WIDE),
                         ((0,), (1, 2, 3), (1, 2, 3), (1, 2, 3)))


class Results(unittest.TestCase):

    def test_tuples_of_ascending_tuples_of_integers(self):
        draw = random.Random(9)
        for layers in drawn_programs(draw, 40):
            program = Program(layers)
            for line in drawn_lines(draw, 3, 20):
                for found in (taken(program, 0, line), held(program, line, rounds=2),
                              alone(program, line, rounds=2)):
                    self.assertIs(type(found), tuple)
                    self.assertEqual(len(found), sum(map(abs, line)))
                    for places in found:
                        self.assertIs(type(places), tuple)
                        self.assertEqual(list(places), sorted(set(places)))
                        self.assertLessEqual({type(place) for place in places}, {int})

    def test_equal_arguments_give_equal_results(self):
        again = Program.read(str(WIDE))
        for line in SHORT_LINES:
            same = tuple(list(line))
            self.assertEqual(taken(WIDE, 1, line), taken(again, 1, same))
            self.assertEqual(held(WIDE, line, rounds=3), held(again, same, rounds=3))
            self.assertEqual(alone(WIDE, line, rounds=3), alone(again, same, rounds=3))
        self.assertEqual(again, WIDE)

    def test_the_functions_are_defined_in_their_file(self):
        for function in (taken, held, alone):
            self.assertEqual(function.__module__, running.__name__)


class Errors(WrongArguments):

    def test_no_program(self):
        for value in WRONG_PROGRAMS:
            with self.subTest(repr(value)):
                self.assert_given(NotAProgram, value, lambda: taken(value, 0, (1,)))
                self.assert_given(NotAProgram, value, lambda: taken(line=(1,), index=0, program=value))
                for function in (held, alone):
                    self.assert_given(NotAProgram, value, lambda: function(value, (1,)))
                    self.assert_given(NotAProgram, value, lambda: function(line=(1,), program=value))

    def test_no_index(self):
        for layers in (("clear",), ("clear",) * 3, ("clear",) * 4):
            program = Program(layers)
            for value in WRONG_INDEXES + list(range(len(layers), 4)):
                with self.subTest(repr(value)):
                    self.assert_given(InvalidIndex, value, lambda: taken(program, value, (1,)))
                    call = lambda: taken(line=(1,), index=value, program=program)
                    self.assert_given(InvalidIndex, value, call)

    def test_no_line(self):
        for value in WRONG_LINES:
            with self.subTest(repr(value)):
                self.assert_given(InvalidLine, value, lambda: taken(WIDE, 1, value))
                self.assert_given(InvalidLine, value, lambda: taken(line=value, index=1, program=WIDE))
                for function in (held, alone):
                    self.assert_given(InvalidLine, value, lambda: function(WIDE, value))
                    self.assert_given(InvalidLine, value, lambda: function(line=value, program=WIDE))

    def test_no_number(self):
        for value in WRONG_NUMBERS:
            for function in (held, alone):
                with self.subTest(repr(value)):
                    call = lambda: function(WIDE, (1,), rounds=value)
                    self.assert_given(InvalidNumber, value, call)

    def test_the_first_one_that_is_wrong(self):
        for wrong in (None, True, [1], "clear", (0,), -1):
            for other in ([], 0, "x", wrong):
                self.assert_given(NotAProgram, wrong, lambda: taken(wrong, other, other))
                self.assert_given(NotAProgram, wrong, lambda: taken(wrong, 0, other))
                self.assert_given(InvalidIndex, wrong, lambda: taken(WIDE, wrong, other))
                for function in (held, alone):
                    call = lambda: function(rounds=other, line=other, program=wrong)
                    self.assert_given(NotAProgram, wrong, call)
                    call = lambda: function(rounds=other, line=wrong, program=WIDE)
                    self.assert_given(InvalidLine, wrong, call)
                    self.assert_given(NotAProgram, wrong, lambda: function(wrong, (1,), rounds=0))

    def test_rounds_by_name_alone(self):
        for function in (held, alone):
            with self.assertRaises(TypeError):
                function(WIDE, (1,), 2)

    def test_what_is_passed_is_not_changed(self):
        for wrong in ([1, -1], ([1], 2), {"a": [1]}):
            before = copy.deepcopy(wrong)
            self.assert_given(NotAProgram, wrong, lambda: held(wrong, (1,)))
            self.assert_given(InvalidLine, wrong, lambda: held(WIDE, wrong))
            self.assert_given(InvalidNumber, wrong, lambda: alone(WIDE, (1,), rounds=wrong))
            self.assert_given(InvalidIndex, wrong, lambda: taken(WIDE, wrong, (1,)))
            self.assertEqual(wrong, before)


if __name__ == "__main__":
    unittest.main()
