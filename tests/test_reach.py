"""Tests of filledrows.reach."""

import copy
import itertools
import random
import unittest

from filledrows import reach as module
from filledrows.errors import InvalidNumber, InvalidPlan, NotAProgram, TooMany
from filledrows.programs import Program
from filledrows.reach import reach
from tests.samples import (LAYERS, LAYERS_BY_WIDTH, LINES, PLANS, PLANS_OF, SHORT_LINES,
                           WRONG_NUMBERS, WRONG_PLANS, WRONG_PROGRAMS, WrongArguments, drawn_lines,
                           drawn_programs, is_of_plan, layer_width, places, plain_held, size)

WIDE = Program(("look line back 1 own", "look line ahead 1 own"))


def numbers_of_rounds(layers):
    """All numbers of rounds with which questions about this program are answered."""
    width = sum(map(layer_width, layers))
    return [rounds for rounds in range(1, 7) if rounds * width <= 8] + [None] * (width <= 4)


def distances(layers, line, rounds):
    """The greatest distances at which a true place of the line holds places of its own row."""
    told = places(line)
    back, ahead = 0, 0
    for x, held in enumerate(plain_held(layers, line, rounds)):
        for y in held:
            if told[x] == told[y] and told[x][1]:
                back, ahead = max(back, x - y), max(ahead, y - x)
    return back, ahead


def greatest(layers, some_lines, rounds, plan):
    """The greatest distances on those of these lines that are of the plan."""
    found = [distances(layers, line, rounds) for line in some_lines if is_of_plan(line, plan)]
    return tuple(max(each) for each in zip(*found))


def lines_with_one_row(most):
    """All lines with one row of up to so many places, and up to four filling places around it."""
    for many in range(1, most + 1):
        for before, behind in itertools.product((0, 1, 2, 4), repeat=2):
            line = (-before, many, -behind)
            yield tuple(piece for piece in line if piece)


LONGER_LINES = list(lines_with_one_row(10))
LONGEST_LINES = list(lines_with_one_row(16))

# Layers, rounds, plan, and how far they reach.
KNOWN = [
    (("clear",), 1, "any", (0, 0)),
    (("clear",), None, "any", (0, 0)),
    (("look row back 1 every 2",), 6, "any", (0, 0)),
    (("look row back 1 every 2 own",), None, "any", (0, 0)),
    (("look row first",), 1, "any", (None, 0)),
    (("look row first",), 6, "any", (None, 0)),
    (("look row first",), None, "front", (None, 0)),
    (("look row last",), 1, "joined", (0, None)),
    (("look row last", "look row first"), 1, "joined", (0, None)),
    (("look row first", "look row last"), 1, "joined", (None, 0)),
    (("look row first", "look row at 3 ahead"), 1, "any", (None, 0)),
    (("look row last", "look row at 3 back"), 1, "any", (0, None)),
    (("look row at 3 ahead", "look row first"), 1, "any", (None, 3)),
    (("look row at 3 back", "look row last"), 1, "any", (3, None)),
    (("look row at 3 back", "look row last"), 2, "any", (3, None)),
    (("look row at 3 back", "look row last"), None, "any", (3, None)),
    (("look row back 3",), 1, "behind", (3, 0)),
    (("look row back 3",), 2, "behind", (6, 0)),
    (("look row back 3",), None, "behind", (None, 0)),
    (("look row back 3 every 2",), 1, "behind", (2, 0)),
    (("look row back 3 every 2",), 2, "any", (4, 0)),
    (("look row back 3 every 3",), 2, "any", (6, 0)),
    (("look row ahead 2 every 3",), 4, "any", (0, 0)),
    (("look row at 2 ahead",), 4, "joined", (0, 8)),
    (("look line at 2 ahead",), 4, "front", (0, 8)),
    (("look row around 1",), 6, "front", (6, 6)),
    (("look row around 1",), 5, "front", (5, 5)),
    (("look row around 1",), None, "front", (None, None)),
    (("look row back all",), 1, "any", (None, 0)),
    (("look row around all every 3",), 1, "any", (None, None)),
    (("look row ahead all every 2",), 4, "packed", (0, None)),
    (("look row at 1 back", "look row at 3 ahead"), 1, "any", (0, 2)),
    (("look row at 1 back", "look row at 3 ahead"), 2, "any", (0, 4)),
    (("look row at 1 back", "look row at 1 ahead"), None, "any", (0, 0)),
    (("look row at 1 back", "look row at 3 ahead"), None, "any", (0, None)),
    (("look line at 3 back", "look line at 2 ahead"), 1, "behind", (1, 0)),
    (("look line around 3 every 3",), 2, "joined", (6, 6)),
    (("look true at 1 ahead", "look row last"), 1, "joined", (0, 0)),
    (("add true at 1 ahead", "look row last"), 1, "joined", (0, None)),
    (("look row at 3 back", "look row at 3 back", "look row at 2 back"), 1, "any", (8, 0)),
    (("look row back 3", "look row ahead 3", "look row around 2"), 1, "any", (4, 4)),
    (("add row back 3", "add row ahead 3", "add row around 2"), 1, "any", (5, 5)),
    (("add true back 2", "add row around 2", "add line back 2", "add row around 2"), 1, "any", (8, 4)),
    (("look line back all", "clear"), 1, "front", (None, 0)),
    (("look line back 1", "look line back 1", "look true ahead all"), 1, "behind", (1, None)),
    (("add line back 2", "look line ahead all every 2 for true"), None, "behind", (1, None)),
    (("add line back 2", "look line ahead all every 2 for true"), 2, "behind", (1, None)),
    (("add line back 2", "look line ahead all every 2 for true"), 1, "behind", (0, None)),
]


class Compared(WrongArguments):

    def assert_pair(self, found):
        """Asks whether it is a pair of distances."""
        self.assertIs(type(found), tuple)
        self.assertEqual(len(found), 2)
        for distance in found:
            self.assertIn(type(distance), (int, type(None)))

    def assert_reach(self, layers, rounds, plan, some_lines):
        """Compares with these lines, among which are those that show what is in a short reach."""
        found = reach(Program(layers), plan, rounds=rounds)
        self.assert_pair(found)
        longest = max(map(size, some_lines)) - 1
        for distance, seen in zip(found, greatest(layers, some_lines, rounds, plan)):
            if distance is None or distance >= longest:
                # What a place holds as far away as can be on these lines does not tell how far it goes.
                self.assertGreater(seen, 0, (layers, rounds, plan, found))
            else:
                self.assertEqual(seen, distance, (layers, rounds, plan, found))

    def test_each_layer(self):
        for layer in LAYERS:
            for plan in PLANS:
                self.assert_reach((layer,), 1, plan, SHORT_LINES)

    def test_drawn_programs_on_all_lines_of_up_to_six_places(self):
        draw = random.Random(1)
        for layers in drawn_programs(draw, 60):
            rounds = draw.choice(numbers_of_rounds(layers))
            seen = {line: distances(layers, line, rounds) for line in LINES}
            for plan in PLANS:
                found = reach(Program(layers), plan, rounds=rounds)
                here = [max(each) for each in zip(*[seen[line] for line in LINES if plan in PLANS_OF[line]])]
                for distance, shown in zip(found, here):
                    self.assertTrue(distance is None or shown <= distance, (layers, rounds, plan, found))
                    if distance is not None and distance <= 3:
                        self.assertEqual(shown, distance, (layers, rounds, plan, found))

    def test_drawn_programs_on_longer_lines_with_one_row(self):
        draw = random.Random(2)
        for layers in drawn_programs(draw, 60):
            rounds = draw.choice(numbers_of_rounds(layers))
            for plan in ("behind", "front"):
                self.assert_reach(layers, rounds, plan, LONGER_LINES)

    def test_drawn_programs_for_each_number_of_rounds(self):
        draw = random.Random(3)
        for layers in drawn_programs(draw, 25, widest=2):
            for rounds in numbers_of_rounds(layers):
                self.assert_reach(layers, rounds, draw.choice(("behind", "front")), LONGER_LINES)

    def test_drawn_programs_for_any_number_of_rounds(self):
        draw = random.Random(4)
        for layers in drawn_programs(draw, 60, widest=4):
            self.assert_reach(layers, None, draw.choice(("behind", "front")), LONGER_LINES)

    def test_drawn_programs_where_several_rows_lie_side_by_side(self):
        draw = random.Random(5)
        for layers in drawn_programs(draw, 60):
            plan = draw.choice(("joined", "packed", "any"))
            rounds = draw.choice(numbers_of_rounds(layers))
            found = reach(Program(layers), plan, rounds=rounds)
            shown = [0, 0]
            for line in drawn_lines(draw, 60, 14) + LINES:
                if is_of_plan(line, plan):
                    pair = distances(layers, line, rounds)
                    shown = [max(each) for each in zip(shown, pair)]
            for distance, seen in zip(found, shown):
                self.assertTrue(distance is None or seen <= distance, (layers, rounds, plan, found))
                if distance is None or distance > 0:
                    self.assertGreater(seen, 0, (layers, rounds, plan, found))
                if distance is not None and distance <= 3:
                    self.assertEqual(seen, distance, (layers, rounds, plan, found))

    def test_where_there_is_no_bound_longer_lines_show_more(self):
        draw = random.Random(6)
        asked = 0
        while asked < 60:
            (layers,) = drawn_programs(draw, 1)
            rounds = draw.choice(numbers_of_rounds(layers))
            plan = draw.choice(("behind", "front"))
            found = reach(Program(layers), plan, rounds=rounds)
            if None in found:
                asked += 1
                seen = greatest(layers, LONGEST_LINES, rounds, plan)
                for distance, here in zip(found, seen):
                    if distance is None:
                        self.assertGreaterEqual(here, 10, (layers, rounds, plan))


class Known(WrongArguments):

    def test_the_examples_of_the_interface(self):
        self.assertEqual(reach(WIDE, "behind"), (1, 1))
        self.assertEqual(reach(WIDE, "any", rounds=3), (3, 3))
        self.assertEqual(reach(WIDE, "behind", rounds=None), (None, None))
        self.assertEqual(reach(Program(("look row first",)), "behind"), (None, 0))
        self.assertEqual(reach(Program(("look row back 3 every 2",)), "any", rounds=2), (4, 0))

    def test_what_is_known(self):
        for layers, rounds, plan, wanted in KNOWN:
            with self.subTest(layers=layers, rounds=rounds, plan=plan):
                self.assertEqual(reach(Program(layers), plan, rounds=rounds), wanted)

    def test_what_is_known_is_so_on_lines(self):
        for layers, rounds, plan, wanted in KNOWN:
            with self.subTest(layers=layers, rounds=rounds, plan=plan):
                some_lines = LONGER_LINES + LINES
                for distance, seen in zip(wanted, greatest(layers, some_lines, rounds, plan)):
                    if distance is None:
                        self.assertGreaterEqual(seen, 6)
                    else:
                        self.assertEqual(distance, seen)

    def test_through_other_rows_and_fillings(self):
        program = Program(("look line at 2 ahead", "look line at 3 back"))
        self.assertEqual([reach(program, plan) for plan in PLANS], [(1, 0)] * 5)
        program = Program(("look row at 2 ahead", "look line at 3 back"))
        self.assertEqual([reach(program, plan) for plan in PLANS], [(1, 0)] * 5)
        program = Program(("look line at 1 ahead", "look row last"))
        self.assertEqual([reach(program, plan) for plan in PLANS], [(0, 0)] * 5)
        program = Program(("look line back all every 2", "clear", "look line at 1 ahead"))
        self.assertEqual(reach(program, "joined"), (None, 0))

    def test_one_round_is_meant_where_none_is_named(self):
        draw = random.Random(7)
        for layers in drawn_programs(draw, 60):
            for plan in PLANS:
                program = Program(layers)
                self.assertEqual(reach(program, plan), reach(program, plan, rounds=1))

    def test_by_name(self):
        self.assertEqual(reach(plan="behind", program=WIDE), (1, 1))
        self.assertEqual(reach(rounds=3, plan="any", program=WIDE), (3, 3))
        self.assertEqual(reach(WIDE, plan="any", rounds=None), (None, None))

    def test_equal_arguments_give_equal_results(self):
        draw = random.Random(8)
        for layers in drawn_programs(draw, 60):
            for rounds in numbers_of_rounds(layers):
                again = Program.read("\n".join(layers))
                plan = draw.choice(PLANS)
                found = reach(Program(layers), plan, rounds=rounds)
                self.assertEqual(found, reach(again, "".join(list(plan)), rounds=rounds))
                self.assertEqual(again.layers, layers)


class Errors(WrongArguments):

    def test_no_program(self):
        for value in WRONG_PROGRAMS:
            with self.subTest(repr(value)):
                self.assert_given(NotAProgram, value, lambda: reach(value, "any"))
                call = lambda: reach(rounds=None, plan="any", program=value)
                self.assert_given(NotAProgram, value, call)

    def test_no_plan(self):
        for value in WRONG_PLANS:
            with self.subTest(repr(value)):
                self.assert_given(InvalidPlan, value, lambda: reach(WIDE, value))
                call = lambda: reach(rounds=2, plan=value, program=WIDE)
                self.assert_given(InvalidPlan, value, call)

    def test_no_number(self):
        for value in WRONG_NUMBERS:
            if value is not None:
                with self.subTest(repr(value)):
                    self.assert_given(InvalidNumber, value, lambda: reach(WIDE, "any", rounds=value))

    def test_too_many(self):
        for widths in itertools.product(range(4), repeat=3):
            width = sum(widths)
            if width > 8:
                continue
            program = Program(tuple(LAYERS_BY_WIDTH[wide][0] for wide in widths))
            for rounds in range(1, 7):
                call = lambda: reach(program, "behind", rounds=rounds)
                if rounds * width > 8:
                    self.assert_told(TooMany, 8, call)
                else:
                    self.assertEqual(len(call()), 2)
            call = lambda: reach(program, "behind", rounds=None)
            if width > 4:
                self.assert_told(TooMany, 4, call)
            else:
                self.assertEqual(len(call()), 2)

    def test_the_first_one_that_is_wrong(self):
        broad = Program(("look row back 3", "look row back 3"))
        for wrong in (None, True, 0, [], "clear", -1, (1,)):
            for other in (False, 7, {}, "any other", wrong):
                call = lambda: reach(rounds=other, plan=other, program=wrong)
                self.assert_given(NotAProgram, wrong, call)
                self.assert_given(NotAProgram, wrong, lambda: reach(wrong, other))
                call = lambda: reach(rounds=other, plan=wrong, program=broad)
                self.assert_given(InvalidPlan, wrong, call)
        for wrong in (7, True, 0, -1, "1", [], (1,)):
            self.assert_given(InvalidNumber, wrong, lambda: reach(broad, "any", rounds=wrong))

    def test_too_many_comes_last(self):
        broad = Program(("look row back 3", "look row back 3"))
        for rounds, limit in ((2, 8), (6, 8), (None, 4)):
            for wrong in (None, True, 0, "x", []):
                self.assert_given(InvalidPlan, wrong, lambda: reach(broad, wrong, rounds=rounds))
                self.assert_given(NotAProgram, wrong, lambda: reach(wrong, "any", rounds=rounds))
            self.assert_told(TooMany, limit, lambda: reach(broad, "any", rounds=rounds))

    def test_rounds_by_name_alone(self):
        with self.assertRaises(TypeError):
            reach(WIDE, "any", 2)

    def test_what_is_passed_is_not_changed(self):
        for wrong in ([1, -1], {"a": [1]}, ([1], 2)):
            before = copy.deepcopy(wrong)
            self.assert_given(NotAProgram, wrong, lambda: reach(wrong, "any"))
            self.assert_given(InvalidPlan, wrong, lambda: reach(WIDE, wrong))
            self.assert_given(InvalidNumber, wrong, lambda: reach(WIDE, "any", rounds=wrong))
            self.assertEqual(wrong, before)

    def test_the_function_is_defined_in_its_file(self):
        self.assertEqual(reach.__module__, module.__name__)


if __name__ == "__main__":
    unittest.main()
