"""Tests of filledrows.asking."""

import copy
import itertools
import random
import unittest

from filledrows import asking
from filledrows.asking import can_hold, miscounted, shown
from filledrows.errors import InvalidKind, InvalidNumber, InvalidPlan, NotAProgram, TooMany
from filledrows.lines import fits
from filledrows.programs import Program
from filledrows.running import held
from tests.samples import (KINDS, LAYERS, LAYERS_BY_WIDTH, LINES, PLANS, WRONG_KINDS, WRONG_NUMBERS,
                           WRONG_PLANS, WRONG_PROGRAMS, WrongArguments, as_tuples, drawn_programs,
                           layer_width, of_kind, plain_held, plain_looks, size)

WIDE = Program(("look line back 1 own", "look line ahead 1 own"))
CLEAN = Program(("look line back 1 own", "clear", "look line ahead 1 own"))

# Longer lines, of the two plans that have few of them.
LONGER_LINES = [line for places in range(7, 14)
                for line in [(places,)] + [(true, true - places) for true in range(1, places)]
                + [(true - places, true) for true in range(1, places)]]


PLANS_OF = {line: [plan for plan in PLANS if fits(line, plan)] for line in LINES + LONGER_LINES}

PAIRS = {line: {kind: [(x, y) for x in range(size(line)) for y in range(size(line))
                       if of_kind(kind, line, x, y)] for kind in KINDS}
         for line in LINES + LONGER_LINES}


def fewest_places(layers, rounds, some_lines):
    """For each kind and plan the fewest places of those of these lines on which it is held."""
    found = {}
    for line in some_lines:
        if rounds is None:
            holds = as_tuples(plain_held(layers, line, None))
        else:
            holds = held(Program(layers), line, rounds=rounds)
        for kind in KINDS:
            if any(y in holds[x] for x, y in PAIRS[line][kind]):
                for plan in PLANS_OF[line]:
                    found.setdefault((kind, plan), size(line))
    return found


def many_rounds(layers):
    """All numbers of rounds with which questions about this program are answered."""
    width = sum(map(layer_width, layers))
    return [rounds for rounds in range(1, 7) if rounds * width <= 8] + [None] * (width <= 4)


class Answers(WrongArguments):

    def assert_shown(self, layers, rounds, kind, plan, found):
        """Asks whether a triple shows what it should."""
        self.assertIs(type(found), tuple)
        line, x, y = found
        self.assertEqual((type(line), type(x), type(y)), (tuple, int, int))
        self.assertEqual({type(piece) for piece in line}, {int})
        self.assertTrue(fits(line, plan), (layers, rounds, kind, plan, found))
        self.assertTrue(of_kind(kind, line, x, y), (layers, rounds, kind, plan, found))
        self.assertIn(y, plain_held(layers, line, rounds)[x], (layers, rounds, kind, plan, found))

    def assert_answers(self, layers, rounds, some_lines, plans=PLANS):
        """Compares the answers for all kinds and plans with what is held on these lines."""
        program = Program(layers)
        fewest = fewest_places(layers, rounds, some_lines)
        longest = size(some_lines[-1])
        for kind, plan in itertools.product(KINDS, plans):
            found = shown(program, kind, plan, rounds=rounds)
            self.assertIs(can_hold(program, kind, plan, rounds=rounds), found is not None)
            if found is not None:
                self.assert_shown(layers, rounds, kind, plan, found)
            places = None if found is None or size(found[0]) > longest else size(found[0])
            self.assertEqual(places, fewest.get((kind, plan)), (layers, rounds, kind, plan, found))


class Compared(Answers):

    def test_all_lines_that_are_compared_are_there(self):
        self.assertEqual(len(LINES), 2 + 5 + 13 + 34 + 89 + 233)
        self.assertEqual([size(line) for line in LINES], sorted(size(line) for line in LINES))

    def test_each_layer_by_itself(self):
        some_lines = [line for line in LINES if size(line) <= 4]
        for layer in LAYERS:
            self.assert_answers((layer,), 1, some_lines)

    def test_drawn_programs_on_lines_of_up_to_five_places(self):
        draw = random.Random(1)
        some_lines = [line for line in LINES if size(line) <= 5]
        for layers in drawn_programs(draw, 110):
            self.assert_answers(layers, draw.choice(many_rounds(layers)), some_lines)

    def test_drawn_programs_on_lines_of_up_to_six_places(self):
        draw = random.Random(2)
        for layers in drawn_programs(draw, 35):
            self.assert_answers(layers, draw.choice(many_rounds(layers)), LINES)

    def test_drawn_programs_for_each_number_of_rounds(self):
        draw = random.Random(3)
        some_lines = [line for line in LINES if size(line) <= 4]
        for layers in drawn_programs(draw, 60, widest=3):
            for rounds in many_rounds(layers):
                self.assert_answers(layers, rounds, some_lines)

    def test_drawn_programs_for_any_number_of_rounds(self):
        draw = random.Random(4)
        for layers in drawn_programs(draw, 50, widest=4):
            self.assert_answers(layers, None, LINES)

    def test_drawn_programs_on_longer_lines_of_plans_with_one_row(self):
        draw = random.Random(5)
        some_lines = sorted([line for line in PLANS_OF if {"behind", "front"} & set(PLANS_OF[line])],
                            key=size)
        for layers in drawn_programs(draw, 60):
            rounds = draw.choice(many_rounds(layers))
            self.assert_answers(layers, rounds, some_lines, ("behind", "front"))

    def test_programs_of_width_eight(self):
        draw = random.Random(6)
        some_lines = [line for line in LINES if size(line) <= 5]
        for widths in ((3, 3, 2), (2, 2, 2, 2), (3, 2, 3, 0), (1, 3, 1, 3), (3, 1, 2, 2)) * 5:
            layers = tuple(draw.choice(LAYERS_BY_WIDTH[width]) for width in widths)
            self.assert_answers(layers, 1, some_lines)
        for widths, rounds in (((1,), 6), ((1, 1), 4), ((2,), 4), ((1, 1, 1, 1), 2), ((3, 1), 2)) * 4:
            layers = tuple(draw.choice(LAYERS_BY_WIDTH[width]) for width in widths)
            self.assert_answers(layers, rounds, some_lines)

    def test_programs_of_width_four_for_any_number_of_rounds(self):
        draw = random.Random(7)
        some_lines = [line for line in LINES if size(line) <= 5]
        for widths in ((1, 1, 1, 1), (2, 2), (3, 1), (1, 3), (2, 1, 1), (1, 0, 2, 1), (3, 0, 1)) * 6:
            layers = tuple(draw.choice(LAYERS_BY_WIDTH[width]) for width in widths)
            self.assert_answers(layers, None, some_lines)

    def test_programs_to_which_further_rounds_make_a_difference(self):
        for layers, kind, plans in MORE_ROUNDS:
            self.assert_answers(layers, None, LINES)
            self.assert_answers(layers, 1, LINES)
            for plan in plans:
                once = shown(Program(layers), kind, plan)
                ever = shown(Program(layers), kind, plan, rounds=None)
                self.assertTrue(once is None or size(once[0]) > size(ever[0]), (layers, kind, plan))

    def test_things_far_apart(self):
        draw = random.Random(8)
        far = [layer for layer in LAYERS if {"all", "first", "last", "every"} & set(layer.split(" "))]
        some_lines = [line for line in LINES if size(line) <= 5]
        asked = 0
        while asked < 60:
            layers = tuple(draw.choice(far) for _ in range(draw.randint(2, 4)))
            if sum(map(layer_width, layers)) <= 8:
                asked += 1
                self.assert_answers(layers, draw.choice(many_rounds(layers)), some_lines)


# Layers, rounds, kind and plan, with what shows it: None, or how many places the line has.
KNOWN = [
    (("look row at 3 back", "look row at 3 back", "look row at 2 back"), 1, "earlier", "behind", 9),
    (("look row at 3 back", "look row at 3 back", "look row at 2 back"), 1, "later", "any", None),
    (("look line at 3 ahead",), 2, "filling", "behind", 7),
    (("look line at 3 ahead",), 2, "filling", "front", None),
    (("look line at 2 back",), 4, "filling", "front", 9),
    (("look line at 1 back",), 6, "other", "joined", 7),
    (("look true back all every 3",), 1, "other", "joined", 4),
    (("look true back all every 3",), 2, "other", "packed", 7),
    (("look true back all every 2", "look true back all every 3"), 1, "other", "any", 6),
    (("look true around all every 2", "look true back all every 3"), 1, "later", "front", 5),
    (("look row around all every 2", "look row back all every 3"), 1, "later", "front", 5),
    (("look row first", "look row at 3 ahead"), 1, "earlier", "behind", 5),
    (("look row first", "look row at 3 ahead"), 1, "later", "behind", None),
    (("look row last", "look row at 3 back"), 1, "later", "behind", 5),
    (("look row last", "look line at 1 ahead"), 1, "filling", "behind", None),
    (("look line at 1 ahead", "look row last"), 1, "filling", "behind", 2),
    (("look line at 3 ahead", "look row last"), 1, "other", "joined", 4),
    (("look line at 3 ahead", "look row last"), 1, "other", "behind", None),
    (("look line back 1 every 2",), 6, "strange", "any", None),
    (("look row at 3 back", "look row at 1 ahead"), 1, "earlier", "behind", 4),
    (("look row at 3 back", "look row at 1 ahead"), 2, "earlier", "behind", 6),
    (("look row at 3 back", "look row at 1 ahead"), None, "earlier", "behind", 4),
    (("look row at 3 back", "look row at 1 ahead"), None, "later", "any", None),
    (("look row at 2 back", "look row at 2 ahead"), None, "strange", "any", None),
    (("look row at 2 back", "look row at 2 ahead"), None, "earlier", "any", None),
    (("look true back all own",), None, "later", "any", None),
    (("look true back all own",), None, "other", "packed", 2),
    (("look line at 1 back", "look line at 2 ahead"), None, "filling", "front", None),
    (("look line at 1 back", "look line at 2 ahead"), None, "filling", "behind", 3),
    (("clear",), None, "strange", "any", None),
    (("clear",), 6, "later", "any", None),
    (("clear", "look line ahead 1 own"), None, "filling", "behind", None),
    (("look line ahead 1 own", "clear"), None, "filling", "behind", 2),
    (("look line around 1", "clear"), 2, "filling", "any", 3),
    (("clear", "look line around 1"), 2, "filling", "any", None),
    (("look line at 1 ahead", "look row last"), 2, "other", "packed", 3),
    (("look line at 1 ahead", "look row last"), 3, "other", "packed", 4),
    (("look line at 1 ahead", "look row last"), 3, "other", "joined", 4),
    (("look line at 1 ahead", "look row last"), 2, "filling", "packed", 3),
    (("look line at 1 ahead", "look row last"), 2, "filling", "behind", None),
    (("look true around all", "look row around all"), None, "other", "joined", 3),
    (("look true around all", "look row around all"), None, "other", "behind", None),
]


# Layers with a kind and plans for which one round shows nothing or only longer lines.
MORE_ROUNDS = [
    (("look line back 2 own", "look line at 2 ahead for true"), "earlier", ("behind", "packed", "any")),
    (("add line back 2", "look line ahead all every 2 for true"), "earlier", ("behind", "any")),
    (("look line around 2", "look line back 2 every 2 for true"), "later", ("front", "any")),
    (("look true at 2 back for true", "look line ahead 2 own"), "later", ("any",)),
    (("look true ahead 1 own", "add line around 1", "look line at 2 back for true"), "later", ("front",)),
    (("look true ahead 1 for true", "look line back 2 every 2", "look true at 1 ahead for true"),
     "other", ("any",)),
    (("look line around 2 every 2", "look row last"), "later", ("joined", "packed")),
    (("look true around 3 every 3 for true", "look row first for true"), "earlier", ("joined",)),
    (("look line around all every 3", "look true at 1 back for true"), "earlier", ("behind", "packed")),
]


class Known(Answers):

    def test_the_examples_of_the_interface(self):
        self.assertIs(can_hold(WIDE, "filling", "behind"), True)
        self.assertEqual(shown(WIDE, "filling", "behind"), ((1, -1), 0, 1))
        self.assertEqual(shown(WIDE, "filling", "front"), ((-1, 1), 1, 0))
        self.assertIs(can_hold(CLEAN, "filling", "behind"), False)
        self.assertEqual(shown(CLEAN, "strange", "joined")[0], (1, 1))
        program = Program(("look true back all own",))
        self.assertIs(can_hold(program, "later", "any", rounds=None), False)
        program = Program(("look row at 1 back", "look row at 2 ahead"))
        self.assertIs(can_hold(program, "later", "behind"), True)

    def test_what_is_known(self):
        for layers, rounds, kind, plan, places in KNOWN:
            with self.subTest(layers=layers, rounds=rounds, kind=kind, plan=plan):
                found = shown(Program(layers), kind, plan, rounds=rounds)
                self.assertIs(can_hold(Program(layers), kind, plan, rounds=rounds), places is not None)
                if places is None:
                    self.assertIsNone(found)
                else:
                    self.assert_shown(layers, rounds, kind, plan, found)
                    self.assertEqual(size(found[0]), places)

    def test_nothing_filling_or_strange_comes_where_there_is_none(self):
        around = Program(("add line around all",))
        for rounds in (1, 3, 6, None):
            self.assertIs(can_hold(around, "filling", "joined", rounds=rounds), False)
            for plan in PLANS:
                holds = plan in ("joined", "packed", "any")
                self.assertIs(can_hold(around, "other", plan, rounds=rounds), holds)
                self.assertIs(can_hold(around, "filling", plan, rounds=rounds), plan != "joined")
                self.assertIs(can_hold(around, "strange", plan, rounds=rounds), True)

    def test_programs_with_many_things_to_remember(self):
        for layers, rounds in (
                (("look true around all every 3 own", "look true ahead all every 2 for true", "clear",
                  "look true back all every 3 own for true"), 1),
                (("look true around all every 3", "look true around all every 2",
                  "add true around all every 3 for true"), 1),
                (("look line around 1 own",) * 4, 2),
                (("look row last", "look true around 3 every 3 for true"), None)):
            self.assertIs(can_hold(Program(layers), "later", "any", rounds=rounds), True)
            holds = layers[0].startswith("look line")
            self.assertIs(can_hold(Program(layers), "filling", "any", rounds=rounds), holds)

    def test_one_round_is_meant_where_none_is_named(self):
        program = Program(("look line at 1 ahead",))
        for plan in PLANS:
            self.assertEqual(shown(program, "strange", plan), shown(program, "strange", plan, rounds=1))
            self.assertIs(can_hold(program, "strange", plan), plan != "front")
        program = Program(("look line at 1 ahead", "look row last"))
        self.assertIs(can_hold(program, "filling", "behind"), True)
        self.assertIs(can_hold(program, "filling", "behind", rounds=2), False)
        program = Program(("look line at 1 ahead",))
        self.assertEqual(size(shown(program, "filling", "behind")[0]), 2)
        self.assertEqual(size(shown(program, "filling", "behind", rounds=2)[0]), 3)

    def test_by_name(self):
        self.assertIs(can_hold(plan="behind", kind="filling", program=WIDE), True)
        self.assertEqual(shown(rounds=None, plan="behind", kind="filling", program=WIDE)[0], (1, -1))
        self.assertEqual(shown(WIDE, "filling", plan="front"), ((-1, 1), 1, 0))

    def test_equal_arguments_give_equal_results(self):
        draw = random.Random(9)
        for layers in drawn_programs(draw, 30, widest=4):
            one, other = Program(layers), Program.read("\n".join(layers))
            for kind, plan, rounds in itertools.product(KINDS, PLANS, (1, 2, None)):
                again = "".join(list(kind)), "".join(list(plan))
                self.assertEqual(shown(one, kind, plan, rounds=rounds),
                                 shown(other, *again, rounds=rounds))
            self.assertEqual(one, other)
            self.assertEqual(one.layers, layers)


class Miscounted(WrongArguments):

    def test_the_examples_of_the_interface(self):
        self.assertEqual(miscounted(CLEAN, "behind"), 2)
        self.assertEqual(miscounted(CLEAN, "joined"), 0)

    def test_each_layer_with_each_plan(self):
        some_lines = [line for line in LINES if size(line) <= 4]
        for layer in LAYERS:
            wanted = set()
            for line in some_lines:
                if any(plain_looks(layer, line, x, z) for x, z in PAIRS[line]["strange"]):
                    wanted.update(PLANS_OF[line])
            for plan in PLANS:
                found = miscounted(Program((layer,)), plan)
                self.assertEqual(found, 0 if plan in wanted else None, (layer, plan))
                if found is not None:
                    self.assertIs(type(found), int)

    def test_drawn_programs(self):
        draw = random.Random(10)
        for layers in drawn_programs(draw, 300):
            for plan in PLANS:
                wrong = [index for index, layer in enumerate(layers)
                         if miscounted(Program((layer,)), plan) == 0]
                found = miscounted(Program(layers), plan)
                self.assertEqual(found, wrong[0] if wrong else None, (layers, plan))

    def test_the_places_that_are_looked_at_count_whatever_they_hold(self):
        emptied = Program(("clear", "look line ahead 1"))
        self.assertIs(can_hold(emptied, "filling", "behind"), False)
        self.assertEqual(miscounted(emptied, "behind"), 1)
        self.assertEqual(miscounted(Program(("look true at 1 back", "clear")), "packed"), 0)

    def test_programs_that_are_as_wide_as_can_be(self):
        program = Program(("look row back 3", "look row at 3 ahead", "look line at 2 back"))
        self.assertEqual([miscounted(program, plan) for plan in PLANS], [None, 2, 2, 2, 2])

    def test_by_name(self):
        self.assertEqual(miscounted(plan="behind", program=CLEAN), 2)
        self.assertEqual(miscounted(CLEAN, plan="joined"), 0)


class Errors(WrongArguments):

    def test_no_program(self):
        for value in WRONG_PROGRAMS:
            with self.subTest(repr(value)):
                for function in (can_hold, shown):
                    self.assert_given(NotAProgram, value, lambda: function(value, "filling", "any"))
                    call = lambda: function(plan="any", kind="filling", program=value, rounds=None)
                    self.assert_given(NotAProgram, value, call)
                self.assert_given(NotAProgram, value, lambda: miscounted(value, "any"))
                self.assert_given(NotAProgram, value, lambda: miscounted(plan="any", program=value))

    def test_no_kind(self):
        for value in WRONG_KINDS:
            with self.subTest(repr(value)):
                for function in (can_hold, shown):
                    self.assert_given(InvalidKind, value, lambda: function(WIDE, value, "any"))
                    call = lambda: function(plan="any", kind=value, program=WIDE, rounds=2)
                    self.assert_given(InvalidKind, value, call)

    def test_no_plan(self):
        for value in WRONG_PLANS:
            with self.subTest(repr(value)):
                for function in (can_hold, shown):
                    self.assert_given(InvalidPlan, value, lambda: function(WIDE, "later", value))
                    call = lambda: function(plan=value, kind="later", program=WIDE, rounds=2)
                    self.assert_given(InvalidPlan, value, call)
                self.assert_given(InvalidPlan, value, lambda: miscounted(WIDE, value))
                self.assert_given(InvalidPlan, value, lambda: miscounted(plan=value, program=WIDE))

    def test_no_number(self):
        for value in WRONG_NUMBERS:
            if value is not None:
                for function in (can_hold, shown):
                    with self.subTest(repr(value)):
                        call = lambda: function(WIDE, "later", "any", rounds=value)
                        self.assert_given(InvalidNumber, value, call)

    def test_too_many_rounds(self):
        for widths in itertools.product(range(4), repeat=3):
            width = sum(widths)
            if width > 8:
                continue
            program = Program(tuple(LAYERS_BY_WIDTH[wide][0] for wide in widths))
            for rounds in range(1, 7):
                if rounds * width > 8:
                    for function in (can_hold, shown):
                        call = lambda: function(program, "later", "behind", rounds=rounds)
                        self.assert_told(TooMany, 8, call)
                else:
                    can_hold(program, "later", "behind", rounds=rounds)
            if width > 4:
                for function in (can_hold, shown):
                    call = lambda: function(program, "later", "behind", rounds=None)
                    self.assert_told(TooMany, 4, call)
            else:
                can_hold(program, "later", "behind", rounds=None)

    def test_miscounted_is_told_for_each_width(self):
        for widths in itertools.product(range(4), repeat=3):
            if sum(widths) <= 8:
                program = Program(tuple(LAYERS_BY_WIDTH[wide][0] for wide in widths))
                self.assertIn(miscounted(program, "any"), (None, 0, 1, 2))

    def test_the_first_one_that_is_wrong(self):
        broad = Program(("look row back 3", "look row back 3"))
        for wrong in (None, True, 0, [], "clear", -1, (1,)):
            for other in (None, False, 7, {}, "any other", wrong):
                for function in (can_hold, shown):
                    call = lambda: function(rounds=other, plan=other, kind=other, program=wrong)
                    self.assert_given(NotAProgram, wrong, call)
                    call = lambda: function(rounds=other, plan=other, kind=wrong, program=broad)
                    self.assert_given(InvalidKind, wrong, call)
                    call = lambda: function(rounds=other, plan=wrong, kind="later", program=broad)
                    self.assert_given(InvalidPlan, wrong, call)
                    self.assert_given(NotAProgram, wrong, lambda: function(wrong, other, "any"))
                    self.assert_given(NotAProgram, wrong, lambda: function(wrong, "later", other))
                    self.assert_given(InvalidKind, wrong, lambda: function(broad, wrong, other))
                self.assert_given(NotAProgram, wrong, lambda: miscounted(plan=other, program=wrong))

    def test_too_many_comes_last(self):
        broad = Program(("look row back 3", "look row back 3"))
        for rounds, limit in ((2, 8), (6, 8), (None, 4)):
            for function in (can_hold, shown):
                for wrong in (None, True, 0, "x", []):
                    call = lambda: function(broad, wrong, "any", rounds=rounds)
                    self.assert_given(InvalidKind, wrong, call)
                    call = lambda: function(broad, "later", wrong, rounds=rounds)
                    self.assert_given(InvalidPlan, wrong, call)
                call = lambda: function(broad, "later", "any", rounds=rounds)
                self.assert_told(TooMany, limit, call)
                for wrong in (7, True, 0, -1, "1", []):
                    call = lambda: function(broad, "later", "any", rounds=wrong)
                    self.assert_given(InvalidNumber, wrong, call)

    def test_rounds_by_name_alone(self):
        for function in (can_hold, shown):
            with self.assertRaises(TypeError):
                function(WIDE, "later", "any", 2)
        with self.assertRaises(TypeError):
            miscounted(WIDE, "any", rounds=1)

    def test_what_is_passed_is_not_changed(self):
        for wrong in ([1, -1], {"a": [1]}, ([1], 2)):
            before = copy.deepcopy(wrong)
            self.assert_given(NotAProgram, wrong, lambda: shown(wrong, "later", "any"))
            self.assert_given(InvalidKind, wrong, lambda: can_hold(WIDE, wrong, "any"))
            self.assert_given(InvalidPlan, wrong, lambda: miscounted(WIDE, wrong))
            self.assert_given(InvalidNumber, wrong, lambda: shown(WIDE, "later", "any", rounds=wrong))
            self.assertEqual(wrong, before)

    def test_the_functions_are_defined_in_their_file(self):
        for function in (can_hold, shown, miscounted):
            self.assertEqual(function.__module__, asking.__name__)


if __name__ == "__main__":
    unittest.main()
