"""Tests of filledrows.masks."""

import copy
import itertools
import random
import unittest

from filledrows import masks as module
from filledrows.asking import can_hold
from filledrows.errors import (InvalidIndex, InvalidKind, InvalidLayers, InvalidLine, InvalidPlan,
                               NotAProgram)
from filledrows.masks import safe_layers, safe_looks
from filledrows.programs import Program
from tests.samples import (KINDS, LAYERS, LAYERS_BY_WIDTH, LONG_LINES, NO_LAYERS, PLANS, SHORT_LINES,
                           WRONG_INDEXES, WRONG_KINDS, WRONG_LAYERS, WRONG_LINES, WRONG_PLANS,
                           WRONG_PROGRAMS, WrongArguments, as_tuples, changed_layer, drawn_lines,
                           drawn_programs, layer_width, of_kind, plain_held, plain_taken, size)

WIDE = Program(("look line back 1 own", "look line ahead 1 own"))
CLEAN = Program(("look line back 1 own", "clear", "look line ahead 1 own"))


def plain_safe(layers, index, kind, line):
    """For each place u the set of the places v with which (u, v) is safe, by the definition."""
    many = range(size(line))
    before = plain_held(layers[:index], line, 1)
    behind = plain_held(layers[index + 1:], line, 1)
    found = []
    for u in many:
        holders = [x for x in many if u in behind[x]]
        found.append({v for v in many
                      if not any(of_kind(kind, line, x, y) for x in holders for y in before[v])})
    return found


def held_through(layers, index, line, takes):
    """For each place what it holds if in the layer with this index it takes as is told."""
    holds = plain_held(layers[:index], line, 1)
    holds = [set().union(*[holds[v] for v in taken]) for taken in takes]
    for layer in layers[index + 1:]:
        holds = [set().union(*[holds[v] for v in taken]) for taken in plain_taken(layer, line)]
    return holds


def holds_kind(kind, line, holds):
    """Whether a true place holds something of the kind."""
    return any(of_kind(kind, line, x, y) for x, held in enumerate(holds) for y in held)


class Looks(WrongArguments):

    def test_the_examples_of_the_interface(self):
        self.assertEqual(safe_looks(WIDE, 0, "filling", (2, -1)), ((0, 1), (0, 1), (0, 1)))
        self.assertEqual(safe_looks(WIDE, 1, "filling", (1, -1)), ((0,), (0, 1)))
        self.assertEqual(safe_looks(CLEAN, 0, "other", (1, 1)), ((0,), ()))

    def test_the_definition_on_all_short_lines(self):
        draw = random.Random(1)
        for layers in drawn_programs(draw, 25):
            for line in SHORT_LINES:
                index, kind = draw.randrange(len(layers)), draw.choice(KINDS)
                wanted = as_tuples(plain_safe(layers, index, kind, line))
                found = safe_looks(Program(layers), index, kind, line)
                self.assertEqual(found, wanted, (layers, index, kind, line))

    def test_each_layer_and_each_kind(self):
        draw = random.Random(2)
        for layers in drawn_programs(draw, 60):
            for line in drawn_lines(draw, 2, 9):
                for index, kind in itertools.product(range(len(layers)), KINDS):
                    wanted = as_tuples(plain_safe(layers, index, kind, line))
                    found = safe_looks(Program(layers), index, kind, line)
                    self.assertEqual(found, wanted, (layers, index, kind, line))

    def test_long_lines(self):
        draw = random.Random(3)
        for line, *_ in LONG_LINES:
            (layers,) = drawn_programs(draw, 1)
            index, kind = draw.randrange(len(layers)), draw.choice(KINDS)
            wanted = as_tuples(plain_safe(layers, index, kind, line))
            self.assertEqual(safe_looks(Program(layers), index, kind, line), wanted, (layers, line))

    def test_whoever_takes_from_safe_places_holds_nothing_of_the_kind(self):
        draw = random.Random(4)
        for layers in drawn_programs(draw, 80):
            for line in drawn_lines(draw, 3, 8):
                index, kind = draw.randrange(len(layers)), draw.choice(KINDS)
                safe = safe_looks(Program(layers), index, kind, line)
                self.assertFalse(holds_kind(kind, line, held_through(layers, index, line, safe)))
                some = [[v for v in places if draw.random() < 0.5] for places in safe]
                self.assertFalse(holds_kind(kind, line, held_through(layers, index, line, some)))

    def test_no_other_pair_may_be_added(self):
        draw = random.Random(5)
        added = 0
        for layers in drawn_programs(draw, 150):
            for line in drawn_lines(draw, 2, 6):
                index, kind = draw.randrange(len(layers)), draw.choice(KINDS)
                safe = safe_looks(Program(layers), index, kind, line)
                for u, v in itertools.product(range(size(line)), repeat=2):
                    if v not in safe[u]:
                        takes = [places + (v,) if place == u else () for place, places in enumerate(safe)]
                        holds = held_through(layers, index, line, takes)
                        self.assertTrue(holds_kind(kind, line, holds), (layers, index, kind, line, u, v))
                        added += 1
        self.assertGreater(added, 500)

    def test_a_program_holds_something_just_if_it_takes_from_a_place_that_is_not_safe(self):
        draw = random.Random(6)
        for layers in drawn_programs(draw, 80):
            for line in drawn_lines(draw, 3, 8):
                kind = draw.choice(KINDS)
                holds = holds_kind(kind, line, plain_held(layers, line, 1))
                for index, layer in enumerate(layers):
                    safe = safe_looks(Program(layers), index, kind, line)
                    takes_safely = all(set(taken) <= set(places)
                                       for taken, places in zip(plain_taken(layer, line), safe))
                    self.assertEqual(takes_safely, not holds, (layers, index, kind, line))

    def test_pairs_of_a_place_with_itself_are_like_others(self):
        # Whoever holds itself before them holds a later place behind them.
        program = Program(("look row at 1 ahead", "add row back all"))
        self.assertEqual(safe_looks(program, 1, "later", (3,)), ((2,), (0, 2), (0, 1, 2)))
        self.assertEqual(safe_looks(program, 0, "later", (3,)), ((0,), (0, 1), (0, 1, 2)))
        single = Program(("look line at 1 back",))
        self.assertEqual(safe_looks(single, 0, "later", (2, -1)), ((0, 2), (0, 1, 2), (0, 1, 2)))
        self.assertEqual(safe_looks(single, 0, "filling", (2, -1)), ((0, 1), (0, 1), (0, 1, 2)))

    def test_lines_of_fillings_alone(self):
        for kind in KINDS:
            self.assertEqual(safe_looks(WIDE, 0, kind, (-2,)), ((0, 1), (0, 1)))

    def test_results_are_tuples_of_ascending_tuples(self):
        draw = random.Random(7)
        for layers in drawn_programs(draw, 40):
            for line in drawn_lines(draw, 2, 12):
                found = safe_looks(Program(layers), 0, draw.choice(KINDS), line)
                self.assertIs(type(found), tuple)
                self.assertEqual(len(found), size(line))
                for places in found:
                    self.assertIs(type(places), tuple)
                    self.assertEqual(list(places), sorted(set(places)))

    def test_by_name(self):
        found = safe_looks(line=(1, -1), kind="filling", index=1, program=WIDE)
        self.assertEqual(found, ((0,), (0, 1)))
        self.assertEqual(safe_looks(CLEAN, 0, line=(1, 1), kind="other"), ((0,), ()))


class Layers(WrongArguments):

    def assert_layers(self, layers, index, kind, plan, candidates):
        """Compares the answer with can_hold, candidate by candidate."""
        wanted = []
        for number, layer in enumerate(candidates):
            others = layers[:index] + (layer,) + layers[index + 1:]
            if sum(map(layer_width, others)) <= 8 and not can_hold(Program(others), kind, plan):
                wanted.append(number)
        found = safe_layers(Program(layers), index, kind, plan, candidates)
        self.assertEqual(found, tuple(wanted), (layers, index, kind, plan, candidates))
        self.assertIs(type(found), tuple)
        return found

    def test_the_example_of_the_interface(self):
        layers = ("look row ahead 1 own", "clear", "add true back all", "look line at 1 ahead")
        self.assertEqual(safe_layers(WIDE, 1, "filling", "behind", layers), (0, 1, 2))

    def test_drawn_ones(self):
        draw = random.Random(8)
        some = 0
        for layers in drawn_programs(draw, 150):
            index, kind, plan = draw.randrange(len(layers)), draw.choice(KINDS), draw.choice(PLANS)
            candidates = tuple(changed_layer(draw, layers[index]) for _ in range(4))
            candidates += tuple(draw.sample(LAYERS, 3)) + (layers[index],)
            some += len(self.assert_layers(layers, index, kind, plan, candidates))
        self.assertGreater(some, 100)

    def test_all_layers_there_are(self):
        for program, index, kind, plan in ((WIDE, 1, "filling", "behind"), (CLEAN, 2, "strange", "any")):
            self.assert_layers(program.layers, index, kind, plan, tuple(LAYERS))

    def test_layers_that_make_the_program_too_wide(self):
        broad = ("look row back 3", "look row ahead 3", "look row at 2 back")
        candidates = ("look row at 3 back", "look row at 2 back", "clear", "look row around all every 3",
                      "look row at 1 ahead", "look row around 3", "look row first")
        self.assertEqual(self.assert_layers(broad, 2, "filling", "any", candidates), (1, 2, 4, 6))
        self.assertEqual(self.assert_layers(broad, 0, "filling", "any", candidates), tuple(range(7)))

    def test_the_same_layer_twice(self):
        candidates = ("clear", "look line ahead 1", "clear", "look line ahead 1", "clear")
        self.assertEqual(safe_layers(WIDE, 1, "filling", "behind", candidates), (0, 2, 4))

    def test_no_layers(self):
        self.assertEqual(safe_layers(WIDE, 0, "later", "any", ()), ())

    def test_as_many_layers_as_you_like(self):
        self.assertEqual(safe_layers(WIDE, 1, "filling", "behind", ("clear",) * 9), tuple(range(9)))

    def test_the_only_layer_of_a_program(self):
        self.assert_layers(("look line back 1",), 0, "filling", "any", ("clear", "look true back 1"))

    def test_by_name(self):
        found = safe_layers(layers=("clear",), plan="behind", kind="filling", index=1, program=WIDE)
        self.assertEqual(found, (0,))

    def test_equal_arguments_give_equal_results(self):
        draw = random.Random(9)
        for layers in drawn_programs(draw, 30):
            again = Program.read("\n".join(layers))
            candidates = tuple(draw.sample(LAYERS, 5))
            same = tuple(["".join(list(layer)) for layer in candidates])
            for kind in KINDS:
                found = safe_layers(Program(layers), 0, kind, "any", candidates)
                self.assertEqual(found, safe_layers(again, 0, "".join(list(kind)), "any", same))
                found = safe_looks(Program(layers), 0, kind, (2, -1, 1))
                self.assertEqual(found, safe_looks(again, 0, kind, tuple([2, -1, 1])))
            self.assertEqual(again.layers, layers)


class Errors(WrongArguments):

    def test_no_program(self):
        for value in WRONG_PROGRAMS:
            with self.subTest(repr(value)):
                self.assert_given(NotAProgram, value, lambda: safe_looks(value, 0, "later", (1,)))
                call = lambda: safe_looks(line=(1,), kind="later", index=0, program=value)
                self.assert_given(NotAProgram, value, call)
                call = lambda: safe_layers(value, 0, "later", "any", ())
                self.assert_given(NotAProgram, value, call)
                call = lambda: safe_layers(layers=(), plan="any", kind="later", index=0, program=value)
                self.assert_given(NotAProgram, value, call)

    def test_no_index(self):
        for layers in (("clear",), ("clear",) * 3, ("clear",) * 4):
            program = Program(layers)
            for value in WRONG_INDEXES + list(range(len(layers), 4)):
                with self.subTest(repr(value)):
                    call = lambda: safe_looks(program, value, "later", (1,))
                    self.assert_given(InvalidIndex, value, call)
                    call = lambda: safe_layers(plan="any", layers=(), kind="later", index=value,
                                               program=program)
                    self.assert_given(InvalidIndex, value, call)

    def test_no_kind(self):
        for value in WRONG_KINDS:
            with self.subTest(repr(value)):
                self.assert_given(InvalidKind, value, lambda: safe_looks(WIDE, 1, value, (1,)))
                call = lambda: safe_layers(WIDE, 1, value, "any", ("clear",))
                self.assert_given(InvalidKind, value, call)

    def test_no_line(self):
        for value in WRONG_LINES:
            with self.subTest(repr(value)):
                self.assert_given(InvalidLine, value, lambda: safe_looks(WIDE, 1, "later", value))
                call = lambda: safe_looks(line=value, kind="later", index=1, program=WIDE)
                self.assert_given(InvalidLine, value, call)

    def test_no_plan(self):
        for value in WRONG_PLANS:
            with self.subTest(repr(value)):
                call = lambda: safe_layers(WIDE, 1, "later", value, ("clear",))
                self.assert_given(InvalidPlan, value, call)

    def test_no_tuple_of_layers(self):
        for value in WRONG_LAYERS:
            with self.subTest(repr(value)):
                call = lambda: safe_layers(WIDE, 1, "later", "any", value)
                self.assert_told(InvalidLayers, None, call)
                call = lambda: safe_layers(layers=value, plan="any", kind="later", index=0, program=WIDE)
                self.assert_told(InvalidLayers, None, call)

    def test_no_layer_among_them(self):
        for value in NO_LAYERS:
            for index in range(6):
                layers = ("clear",) * index + (value,) + ("clear", value)
                with self.subTest(repr(value)):
                    call = lambda: safe_layers(WIDE, 1, "later", "any", layers)
                    self.assert_told(InvalidLayers, index, call)

    def test_a_layer_that_is_too_wide_there_is_no_wrong_one(self):
        broad = Program(tuple(LAYERS_BY_WIDTH[width][0] for width in (3, 3, 2)))
        call = lambda: safe_layers(broad, 2, "later", "any", ("look row back 3", "clear", "x"))
        self.assert_told(InvalidLayers, 2, call)

    def test_the_first_one_that_is_wrong(self):
        for wrong in (None, True, [], "clear ", -1, (1, 0), 4):
            for other in (False, {}, "any other", 7, wrong):
                call = lambda: safe_looks(wrong, other, other, other)
                self.assert_given(NotAProgram, wrong, call)
                call = lambda: safe_looks(line=other, kind=other, index=wrong, program=WIDE)
                self.assert_given(InvalidIndex, wrong, call)
                call = lambda: safe_looks(line=other, kind=wrong, index=1, program=WIDE)
                self.assert_given(InvalidKind, wrong, call)
                call = lambda: safe_layers(wrong, other, other, other, other)
                self.assert_given(NotAProgram, wrong, call)
                call = lambda: safe_layers(layers=other, plan=other, kind=other, index=wrong, program=WIDE)
                self.assert_given(InvalidIndex, wrong, call)
                call = lambda: safe_layers(layers=other, plan=other, kind=wrong, index=1, program=WIDE)
                self.assert_given(InvalidKind, wrong, call)
                call = lambda: safe_layers(layers=other, plan=wrong, kind="later", index=1, program=WIDE)
                self.assert_given(InvalidPlan, wrong, call)

    def test_what_is_passed_is_not_changed(self):
        for wrong in ([1, -1], {"a": [1]}, ([1], 2)):
            before = copy.deepcopy(wrong)
            self.assert_given(InvalidLine, wrong, lambda: safe_looks(WIDE, 0, "later", wrong))
            call = lambda: safe_layers(WIDE, 0, "later", "any", wrong)
            self.assert_told(InvalidLayers, 0 if isinstance(wrong, tuple) else None, call)
            self.assertEqual(wrong, before)

    def test_the_functions_are_defined_in_their_file(self):
        for function in (safe_looks, safe_layers):
            self.assertEqual(function.__module__, module.__name__)


if __name__ == "__main__":
    unittest.main()
