"""Tests of filledrows.alike."""

import copy
import itertools
import random
import unittest

from filledrows import alike as module
from filledrows.alike import alike, lonely, more, needless, unlike
from filledrows.errors import InvalidPlan, NotAProgram
from filledrows.programs import Program
from filledrows.running import alone, held
from tests.samples import (LAYERS, LAYERS_BY_WIDTH, LINES, PLANS, PLANS_OF, SHORT_LINES, WRONG_PLANS,
                           WRONG_PROGRAMS, WrongArguments, changed_layers, drawn_lines, drawn_programs,
                           is_of_plan, layer_width, lines, places, size)

WIDE = Program(("look line back 1 own", "look line ahead 1 own"))
CLEAN = Program(("look line back 1 own", "clear", "look line ahead 1 own"))
LATE = Program(("clear", "add line back 2", "look line at 1 ahead"))


def true_places(line):
    """The true places of the line."""
    return [place for place, (_, true) in enumerate(places(line)) if true]


def differ(one, other, line):
    """Whether a true place of the line does not hold the same behind both programs."""
    held_one, held_other = held(one, line), held(other, line)
    return any(held_one[x] != held_other[x] for x in true_places(line))


def holds_more(program, line):
    """Whether a true place of the line does not hold just what it holds alone."""
    held_here, held_alone = held(program, line), alone(program, line)
    return any(held_here[x] != held_alone[x] for x in true_places(line))


def fewest_places(shows, some_lines):
    """For each plan the fewest places of those of these lines that show something."""
    found = {}
    for line in some_lines:
        plans = [plan for plan in PLANS_OF[line] if plan not in found]
        if plans and shows(line):
            found.update({plan: size(line) for plan in plans})
    return found


def lines_of(plan, most):
    """All lines of the plan with up to so many places."""
    if plan in ("behind", "front"):
        for many in range(1, most + 1):
            yield (many,)
            for true in range(1, many):
                yield (true, true - many) if plan == "behind" else (true - many, true)
    else:
        for many in range(1, most + 1):
            yield from (line for line in lines(many) if is_of_plan(line, plan))


def shorter_lines(plan, many):
    """The lines of the plan with fewer places than so many; up to eight where there are very many."""
    return lines_of(plan, min(many - 1, 8) if plan in ("packed", "any") else many - 1)


class Answers(WrongArguments):

    def assert_triple(self, found, plan):
        """Asks whether it is a line of the plan with a true place and a place."""
        self.assertIs(type(found), tuple)
        line, x, y = found
        self.assertEqual((type(line), type(x), type(y)), (tuple, int, int))
        self.assertEqual({type(piece) for piece in line}, {int})
        self.assertTrue(is_of_plan(line, plan), found)
        self.assertIn(x, true_places(line))
        self.assertIn(y, range(size(line)))

    def assert_unlike(self, one, other, plan, found):
        """Asks whether a triple shows that they are not alike."""
        self.assert_triple(found, plan)
        line, x, y = found
        self.assertNotEqual(y in held(one, line)[x], y in held(other, line)[x], (found, plan))

    def assert_more(self, program, plan, found):
        """Asks whether a triple shows that something more is held."""
        self.assert_triple(found, plan)
        line, x, y = found
        self.assertIn(y, held(program, line)[x], (found, plan))
        self.assertNotIn(y, alone(program, line)[x], (found, plan))

    def assert_fewest(self, found, fewest, plan, longest):
        """Compares the places of what was found with the fewest ones among all short lines."""
        many = None if found is None or size(found[0]) > longest else size(found[0])
        self.assertEqual(many, fewest.get(plan), (found, plan))

    def assert_compared(self, layers, others, some_lines):
        """Compares all answers about two programs with what is held on these lines."""
        one, other = Program(layers), Program(others)
        longest = size(some_lines[-1])
        fewest = fewest_places(lambda line: differ(one, other, line), some_lines)
        for plan in PLANS:
            for first, second in ((one, other), (other, one)):
                found = unlike(first, second, plan)
                self.assertIs(alike(first, second, plan), found is None)
                self.assert_fewest(found, fewest, plan, longest)
                if found is not None:
                    self.assert_unlike(one, other, plan, found)

    def assert_compared_alone(self, layers, some_lines):
        """Compares all answers about a program with what is held and held alone on these lines."""
        program = Program(layers)
        longest = size(some_lines[-1])
        fewest = fewest_places(lambda line: holds_more(program, line), some_lines)
        for plan in PLANS:
            found = more(program, plan)
            self.assertIs(lonely(program, plan), found is None)
            self.assert_fewest(found, fewest, plan, longest)
            if found is not None:
                self.assert_more(program, plan, found)


# Two programs each, with the plans on which they are alike.
ALIKE = [
    (WIDE.layers, CLEAN.layers, ("front", "joined")),
    (CLEAN.layers, ("look row back 1 own", "look row ahead 1 own"), ("behind",)),
    (("clear",), ("look line back 1 every 2 own",), PLANS),
    (("clear",), ("look row at 1 back",), ()),
    (("look row back 1",), ("look row at 1 back",), PLANS),
    (("look row back 1",), ("look true back 1",), ("behind", "front")),
    (("look true back 1",), ("look line back 1",), ("behind", "joined", "packed")),
    (("look true around 2",), ("look line around 2",), ("joined",)),
    (("look true around 2", "clear"), ("clear", "look line around 2"), PLANS),
    (("look line back 2", "clear"), ("look line back 2",), PLANS),
    (("clear", "look line back 2"), ("look line back 2",), ("behind", "joined", "packed")),
    (("clear", "look line back 2"), ("look true back 2",), PLANS),
    (("look line ahead all",), ("look true ahead all",), ("front", "joined")),
    (("look row ahead all",), ("look line ahead all",), ("front",)),
    (("look row first",), ("look row back all",), ()),
    (("look row first", "look row first"), ("look row first",), PLANS),
    (("look row first", "look row last"), ("look row first",), PLANS),
    (("look row last", "look row first"), ("look row first",), ()),
    (("add row back all", "add row back all"), ("add row back all",), PLANS),
    (("add row back 1", "add row back 1"), ("look row back 2 own",), PLANS),
    (("add line back 1", "add line back 1"), ("add line back 2",), PLANS),
    (("add true back 1", "add true back 1"), ("add true back 2",), ("behind", "joined", "packed", "front")),
    (("look row at 1 back", "look row at 1 back"), ("look row at 2 back",), PLANS),
    (("look row at 1 back", "look row at 1 ahead"), ("look row at 1 ahead", "look row at 1 back"), ()),
    (("look line at 2 back", "look line at 3 ahead"), ("look line at 1 ahead",), ()),
    (("look row around all every 2", "look row around all every 3"),
     ("look row around all every 3", "look row around all every 2"), ()),
    (("look row ahead all every 2", "look row ahead all every 3"),
     ("look row ahead all every 3", "look row ahead all every 2"), PLANS),
    (("look line ahead 2 for true",), ("look line ahead 2",), PLANS),
    (("look line ahead 2 for true", "look line ahead 1"), ("look line ahead 2", "look line ahead 1"),
     ("front", "joined")),
    (("look row back 2 every 2",), ("look row at 2 back",), PLANS),
    (("look row back 3 every 3", "look row ahead 2 every 3"), ("look row around 1 every 2",), PLANS),
    (("add line around all",), ("add line around all every 2", "add line around 1"), PLANS),
    (("add line around all",), ("add line around all every 2", "add row around 1"), ()),
]

# Two programs, the width of the wider one, a plan, and how many places show that they are unlike.
UNLIKE_LATE = [
    (("look row at 3 back", "look row at 3 back", "look row at 2 back"),
     ("look row at 3 back", "look row at 3 back", "look row back 1 every 2"), 8, "any", 9),
    (("look row at 3 back", "look row at 3 back", "look row at 2 back"), ("look row back 1 every 2",),
     8, "behind", 9),
    (("look line at 3 ahead", "look line at 3 ahead", "look line at 2 ahead"),
     ("look true at 3 ahead", "look line at 3 ahead", "look line at 2 ahead"), 8, "behind", 9),
    (("look line at 3 ahead", "look line at 3 ahead", "look line at 2 ahead"),
     ("look row at 3 ahead", "look line at 3 ahead", "look line at 2 ahead"), 8, "joined", 9),
    (("look row at 3 ahead own", "add true ahead 3 every 3 for true"),
     ("add true ahead all every 3 for true", "add row ahead 3 every 3"), 6, "behind", 10),
    (("look row at 1 back for true", "look row back 3 every 3 own", "look line back all every 3 for true"),
     ("look row at 1 back for true", "look row back 3 every 3 own", "look true at 3 back for true"),
     7, "behind", 11),
    (("look row at 1 back", "look row at 3 back", "look row back all every 3"),
     ("look row at 1 back", "look row at 3 back", "look row back 3 every 3"), 7, "front", 11),
    (("look row at 2 back", "look row at 3 back", "look row back all every 3"),
     ("look row at 2 back", "look row at 3 back", "look row at 3 back"), 8, "behind", 12),
    (("look row back 2", "look row back 3", "look row back 3"),
     ("look row back 2", "look row back 3", "look row back 2"), 8, "joined", 9),
    (("add row back 2", "add row ahead 3", "add row back 3"),
     ("add row back 2", "add row ahead 3", "add row back 2"), 8, "behind", 6),
]

# A program of width 7 or 8, a plan, and how many places show that more is held than alone.
MORE_LATE = [
    (("look row back 2 every 2", "look true back all every 3 own", "look row at 3 back"), "joined", 9),
    (("look row at 3 back", "look row at 3 back", "look line at 2 back"), "packed", 9),
    (("look line at 2 back", "look row at 3 back", "look row at 3 back"), "front", 9),
    (("look row at 3 ahead", "look line at 1 ahead", "look row at 3 ahead"), "joined", 8),
    (("look row at 3 ahead", "look line at 2 ahead", "look row at 3 ahead"), "any", 9),
    (("look line at 3 ahead", "look line at 3 ahead", "look line at 2 ahead"), "behind", 9),
    (("look true at 2 ahead", "look row at 3 ahead", "look line at 3 ahead"), "packed", 9),
]


class Compared(Answers):

    def test_each_layer_with_one_like_it(self):
        draw = random.Random(1)
        some_lines = [line for line in LINES if size(line) <= 4]
        for layer in LAYERS:
            self.assert_compared((layer,), changed_layers(draw, (layer,)), some_lines)

    def test_programs_made_much_like_drawn_ones(self):
        draw = random.Random(2)
        for layers in drawn_programs(draw, 100):
            self.assert_compared(layers, changed_layers(draw, layers), SHORT_LINES)

    def test_programs_made_much_like_drawn_ones_on_lines_of_six_places(self):
        draw = random.Random(3)
        for layers in drawn_programs(draw, 40):
            others = changed_layers(draw, changed_layers(draw, layers))
            self.assert_compared(layers, others, LINES)

    def test_programs_that_have_nothing_in_common(self):
        draw = random.Random(4)
        for layers, others in zip(drawn_programs(draw, 60), drawn_programs(draw, 60)):
            self.assert_compared(layers, others, SHORT_LINES)

    def test_programs_of_width_eight(self):
        draw = random.Random(5)
        for widths in ((3, 3, 2), (2, 2, 2, 2), (3, 2, 3, 0), (1, 3, 1, 3), (3, 1, 2, 2)) * 6:
            layers = tuple(draw.choice(LAYERS_BY_WIDTH[width]) for width in widths)
            self.assert_compared(layers, changed_layers(draw, layers), SHORT_LINES)

    def test_what_is_alike_is_so_on_longer_lines(self):
        draw = random.Random(6)
        asked = 0
        while asked < 150:
            (layers,) = drawn_programs(draw, 1)
            one, other = Program(layers), Program(changed_layers(draw, layers))
            plan = draw.choice(PLANS)
            if alike(one, other, plan):
                asked += 1
                for line in drawn_lines(draw, 12, 30):
                    if is_of_plan(line, plan):
                        self.assertFalse(differ(one, other, line), (layers, other.layers, plan, line))

    def test_drawn_programs_alone(self):
        draw = random.Random(7)
        for layers in drawn_programs(draw, 150):
            self.assert_compared_alone(layers, SHORT_LINES)

    def test_drawn_programs_alone_on_lines_of_six_places(self):
        draw = random.Random(8)
        for layers in drawn_programs(draw, 40):
            self.assert_compared_alone(layers, LINES)

    def test_each_layer_alone(self):
        some_lines = [line for line in LINES if size(line) <= 4]
        for layer in LAYERS:
            self.assert_compared_alone((layer,), some_lines)

    def test_lonely_programs_on_longer_lines(self):
        draw = random.Random(9)
        asked = 0
        while asked < 100:
            (layers,) = drawn_programs(draw, 1)
            program, plan = Program(layers), draw.choice(PLANS)
            if lonely(program, plan):
                asked += 1
                for line in drawn_lines(draw, 12, 30):
                    if is_of_plan(line, plan):
                        self.assertFalse(holds_more(program, line), (layers, plan, line))

    def test_on_longer_lines_of_plans_with_one_row(self):
        draw = random.Random(10)
        for layers in drawn_programs(draw, 40):
            others = changed_layers(draw, layers)
            for plan in ("behind", "front"):
                some_lines = list(lines_of(plan, 11))
                found = unlike(Program(layers), Program(others), plan)
                showing = [size(line) for line in some_lines if differ(Program(layers), Program(others), line)]
                many = None if found is None or size(found[0]) > 11 else size(found[0])
                self.assertEqual(many, min(showing, default=None), (layers, others, plan))


class Known(Answers):

    def test_the_examples_of_the_interface(self):
        self.assertIs(lonely(CLEAN, "behind"), True)
        self.assertIs(lonely(LATE, "behind"), False)
        self.assertEqual(more(LATE, "behind"), ((1, -1), 0, 0))
        self.assertEqual(unlike(CLEAN, WIDE, "behind"), ((1, -1), 0, 1))
        self.assertIsNone(unlike(CLEAN, WIDE, "front"))
        rows = Program(("look row back 1 own", "look row ahead 1 own"))
        self.assertIs(alike(CLEAN, rows, "behind"), True)
        self.assertIs(alike(CLEAN, WIDE, "joined"), True)
        self.assertEqual(needless(CLEAN, "joined"), (1,))
        self.assertEqual(needless(CLEAN, "behind"), ())

    def test_what_is_known_to_be_alike_and_not(self):
        for layers, others, plans in ALIKE:
            for plan in PLANS:
                with self.subTest(layers=layers, others=others, plan=plan):
                    one, other = Program(layers), Program(others)
                    self.assertIs(alike(one, other, plan), plan in plans)
                    self.assertIs(alike(other, one, plan), plan in plans)
                    for first, second in ((one, other), (other, one)):
                        found = unlike(first, second, plan)
                        if plan in plans:
                            self.assertIsNone(found)
                        else:
                            self.assert_unlike(one, other, plan, found)

    def test_what_differs_first_on_long_lines(self):
        for layers, others, width, plan, many in UNLIKE_LATE:
            with self.subTest(layers=layers, others=others, plan=plan):
                one, other = Program(layers), Program(others)
                self.assertEqual(max(sum(map(layer_width, each)) for each in (layers, others)), width)
                for first, second in ((one, other), (other, one)):
                    found = unlike(first, second, plan)
                    self.assert_unlike(first, second, plan, found)
                    self.assertEqual(size(found[0]), many)
                    self.assertIs(alike(first, second, plan), False)
                shorter = [line for line in shorter_lines(plan, many) if differ(one, other, line)]
                self.assertEqual(shorter, [])

    def test_what_holds_more_first_on_long_lines(self):
        for layers, plan, many in MORE_LATE:
            with self.subTest(layers=layers, plan=plan):
                program = Program(layers)
                self.assertIn(sum(map(layer_width, layers)), (7, 8))
                found = more(program, plan)
                self.assert_more(program, plan, found)
                self.assertEqual(size(found[0]), many)
                self.assertIs(lonely(program, plan), False)
                shorter = [line for line in shorter_lines(plan, many) if holds_more(program, line)]
                self.assertEqual(shorter, [])

    def test_the_same_program(self):
        draw = random.Random(11)
        for layers in drawn_programs(draw, 150):
            for plan in PLANS:
                self.assertIs(alike(Program(layers), Program(layers), plan), True, (layers, plan))
                self.assertIsNone(unlike(Program(layers), Program(layers), plan))

    def test_alike_through_a_third_one(self):
        draw = random.Random(12)
        found = 0
        while found < 60:
            (layers,) = drawn_programs(draw, 1)
            one = Program(layers)
            other = Program(changed_layers(draw, one.layers))
            third = Program(changed_layers(draw, other.layers))
            plan = draw.choice(PLANS)
            if alike(one, other, plan) and len({one.layers, other.layers, third.layers}) == 3:
                self.assertIs(alike(one, third, plan), alike(other, third, plan))
                self.assertIs(alike(third, one, plan), alike(third, other, plan))
                found += alike(other, third, plan)

    def test_where_there_are_rows_alone_fillings_make_no_difference(self):
        draw = random.Random(13)
        for layers in drawn_programs(draw, 80):
            others = tuple(layer.replace("line", "true").replace(" for true", "") for layer in layers)
            if all(layer in LAYERS for layer in others):
                self.assertIs(alike(Program(layers), Program(others), "joined"), True, layers)

    def test_programs_that_look_in_rows_are_lonely(self):
        draw = random.Random(14)
        for layers in drawn_programs(draw, 80):
            others = tuple(layer.replace(" line", " row").replace(" true ", " row ") for layer in layers)
            self.assertTrue(all(layer in LAYERS for layer in others))
            for plan in PLANS:
                self.assertIs(lonely(Program(others), plan), True, (others, plan))

    def test_programs_of_which_one_does_much_and_the_other_nothing(self):
        for plan in PLANS:
            much, nothing = Program(("look line around all",) * 4), Program(("look row back 1 every 2",))
            self.assert_unlike(much, nothing, plan, unlike(much, nothing, plan))
            self.assert_unlike(nothing, much, plan, unlike(nothing, much, plan))

    def test_many_things_to_remember(self):
        layers = ("look line ahead all every 2 own for true", "look line around all every 3", "clear",
                  "look line around 3 own")
        for plan in PLANS:
            self.assertIs(alike(Program(layers), Program(layers), plan), True)
        others = ("look line ahead all every 2 own for true", "look true around all every 3", "clear",
                  "look line around 3 own")
        for plan in PLANS:
            found = unlike(Program(layers), Program(others), plan)
            if found is None:
                self.assertIn(plan, ("joined", "front"))
            else:
                self.assert_unlike(Program(layers), Program(others), plan, found)

    def test_by_name(self):
        self.assertIs(alike(plan="joined", other=WIDE, one=CLEAN), True)
        self.assertEqual(unlike(plan="behind", other=WIDE, one=CLEAN), ((1, -1), 0, 1))
        self.assertIs(lonely(plan="behind", program=LATE), False)
        self.assertEqual(more(plan="behind", program=LATE), ((1, -1), 0, 0))
        self.assertEqual(needless(plan="joined", program=CLEAN), (1,))

    def test_equal_arguments_give_equal_results(self):
        draw = random.Random(15)
        for layers in drawn_programs(draw, 40):
            others = changed_layers(draw, layers)
            one, other = Program(layers), Program(others)
            again = Program.read("\n".join(layers)), Program.read("\n".join(others))
            for plan in PLANS:
                same = "".join(list(plan))
                self.assertEqual(unlike(one, other, plan), unlike(*again, same))
                self.assertEqual(more(one, plan), more(again[0], same))
                self.assertEqual(needless(one, plan), needless(again[0], same))
            self.assertEqual((one.layers, other.layers), (layers, others))


class Needless(WrongArguments):

    def test_layer_by_layer(self):
        draw = random.Random(16)
        some = 0
        for layers in drawn_programs(draw, 200):
            program = Program(layers)
            for plan in PLANS:
                wanted = tuple(index for index in range(len(layers))
                               if len(layers) > 1 and alike(program, program.without(index), plan))
                found = needless(program, plan)
                self.assertEqual(found, wanted, (layers, plan))
                self.assertIs(type(found), tuple)
                some += len(found) > 0
        self.assertGreater(some, 50)

    def test_known_ones(self):
        for layers, plan, wanted in (
                (("clear", "clear", "clear"), "any", (0, 1, 2)),
                (("clear",), "any", ()),
                (("look row back 1 every 2 own",), "any", ()),
                (("look row first", "clear", "look row first"), "any", (0, 1, 2)),
                (("look row back 1", "clear", "look line ahead 1"), "packed", (1,)),
                (("look line back 1", "clear", "look line ahead 1"), "packed", ()),
                (("look line back 1", "clear", "look line ahead 1"), "front", (1,)),
                (("look line back 1", "look row back 1 every 2", "look line back 1"), "any", (0, 2)),
                (("look row back 1 every 2 own", "look line at 2 back"), "any", (0,)),
                (("look row back 1 own", "look line at 2 back"), "any", ()),
                (("add line back 1 every 2", "look line at 2 back"), "any", (0,))):
            with self.subTest(layers=layers, plan=plan):
                self.assertEqual(needless(Program(layers), plan), wanted)


class Errors(WrongArguments):

    def test_no_program(self):
        for value in WRONG_PROGRAMS:
            with self.subTest(repr(value)):
                for function in (alike, unlike):
                    self.assert_given(NotAProgram, value, lambda: function(value, WIDE, "any"))
                    self.assert_given(NotAProgram, value, lambda: function(WIDE, value, "any"))
                    call = lambda: function(plan="any", other=WIDE, one=value)
                    self.assert_given(NotAProgram, value, call)
                    call = lambda: function(plan="any", other=value, one=WIDE)
                    self.assert_given(NotAProgram, value, call)
                for function in (lonely, more, needless):
                    self.assert_given(NotAProgram, value, lambda: function(value, "any"))
                    self.assert_given(NotAProgram, value, lambda: function(plan="any", program=value))

    def test_no_plan(self):
        single = Program(("clear",))
        for value in WRONG_PLANS:
            with self.subTest(repr(value)):
                for function in (alike, unlike):
                    self.assert_given(InvalidPlan, value, lambda: function(WIDE, WIDE, value))
                    self.assert_given(InvalidPlan, value, lambda: function(plan=value, other=WIDE, one=CLEAN))
                for function, program in itertools.product((lonely, more, needless), (WIDE, single)):
                    self.assert_given(InvalidPlan, value, lambda: function(program, value))
                    self.assert_given(InvalidPlan, value, lambda: function(plan=value, program=program))

    def test_the_first_one_that_is_wrong(self):
        for wrong in (None, True, 0, [], "clear", -1, (1,)):
            for another in ([], False, "any other", {}, wrong):
                for function in (alike, unlike):
                    self.assert_given(NotAProgram, wrong, lambda: function(wrong, another, another))
                    self.assert_given(NotAProgram, wrong, lambda: function(wrong, WIDE, another))
                    self.assert_given(NotAProgram, wrong, lambda: function(WIDE, wrong, another))
                    call = lambda: function(plan=another, other=another, one=wrong)
                    self.assert_given(NotAProgram, wrong, call)
                    call = lambda: function(plan=another, other=wrong, one=WIDE)
                    self.assert_given(NotAProgram, wrong, call)
                for function in (lonely, more, needless):
                    self.assert_given(NotAProgram, wrong, lambda: function(wrong, another))
                    self.assert_given(NotAProgram, wrong, lambda: function(plan=another, program=wrong))

    def test_each_width_gets_its_answer(self):
        for widths in itertools.product(range(4), repeat=3):
            if sum(widths) <= 8:
                program = Program(tuple(LAYERS_BY_WIDTH[width][0] for width in widths))
                self.assertIs(alike(program, program, "any"), True)
                self.assertIn(lonely(program, "any"), (True, False))

    def test_what_is_passed_is_not_changed(self):
        for wrong in ([1, -1], {"a": [1]}, ([1], 2)):
            before = copy.deepcopy(wrong)
            self.assert_given(NotAProgram, wrong, lambda: unlike(WIDE, wrong, "any"))
            self.assert_given(InvalidPlan, wrong, lambda: more(WIDE, wrong))
            self.assert_given(InvalidPlan, wrong, lambda: needless(WIDE, wrong))
            self.assertEqual(wrong, before)

    def test_the_functions_are_defined_in_their_file(self):
        for function in (alike, unlike, lonely, more, needless):
            self.assertEqual(function.__module__, module.__name__)


if __name__ == "__main__":
    unittest.main()
