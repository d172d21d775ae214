"""Tests of filledrows.mends."""

import copy
import itertools
import random
import unittest

from filledrows import mends as module
from filledrows.asking import can_hold
from filledrows.errors import InvalidChanges, InvalidKind, InvalidPlan, NotAProgram
from filledrows.mends import mends
from filledrows.programs import Program
from tests.samples import (KINDS, LAYERS, NO_LAYERS, ODD_VALUES, PLANS, WRONG_INDEXES, WRONG_KINDS,
                           WRONG_PLANS, WRONG_PROGRAMS, WrongArguments, changed_layer, drawn_programs,
                           layer_width)

WIDE = Program(("look line back 1 own", "look line ahead 1 own"))
CLEAN = Program(("look line back 1 own", "clear", "look line ahead 1 own"))
ROWS = ((0, "look row back 1 own"), (1, "look row ahead 1 own"))

# What is no tuple of changes.
NO_TUPLES = [value for value in ODD_VALUES if not isinstance(value, tuple)] + [
    "", "clear", [], [(0, None)], {0: None}, {"a": 1}, list(ROWS),
]

# What is no change of a program with two layers.
NO_CHANGES = ODD_VALUES + [
    (), (0,), (None,), ("clear",), (0, None, None), (0, "clear", 0), ((0, None),), "0c", "ab",
    [0, None], [0, "clear"], {0: None, 1: None}, ("clear", 0), (None, 0), (0, 0), (0, 1),
    (0, True), (0, False), (0, ("clear",)), (0, ["clear"]), (True, None), (False, "clear"),
    (-1, None), (2, None), (3, "clear"), (4, None), ("0", None), (None, None), ((0,), None), (0j, None),
]


def plain_mends(layers, kind, plan, changes):
    """All least sets of the changes that mend the program, found by trying all sets."""
    found = []
    for many in range(len(changes) + 1):
        for chosen in itertools.combinations(range(len(changes)), many):
            others = list(layers)
            for number in chosen:
                others[changes[number][0]] = changes[number][1]
            others = tuple(layer for layer in others if layer is not None)
            if others and sum(map(layer_width, others)) <= 8 and not can_hold(Program(others), kind, plan):
                found.append(chosen)
    return tuple(one for one in found if not any(set(other) < set(one) for other in found))


def drawn_changes(draw, layers):
    """Different changes of a program with these layers."""
    indexes = draw.sample(range(len(layers)), draw.randint(0, len(layers)))
    return tuple((index, draw.choice((None, "clear", draw.choice(LAYERS), changed_layer(draw, layers[index]),
                                      layers[index].replace("line", "row").replace("true ", "row "))))
                 for index in indexes)


def right_changes(changes):
    """These changes without those whose layers are none, written with a scope that does not fit."""
    return tuple(change for change in changes if change[1] is None or change[1] in LAYERS)


class Answers(WrongArguments):

    def assert_mends(self, layers, kind, plan, changes):
        """Compares the answer with all sets that are tried."""
        wanted = plain_mends(layers, kind, plan, changes)
        found = mends(Program(layers), kind, plan, changes)
        self.assertEqual(found, wanted, (layers, kind, plan, changes))
        self.assertIs(type(found), tuple)
        for chosen in found:
            self.assertIs(type(chosen), tuple)
            self.assertLessEqual({type(number) for number in chosen}, {int})
        self.assertEqual(list(found), sorted(found, key=lambda chosen: (len(chosen), chosen)))
        return found


class Mends(Answers):

    def test_the_examples_of_the_interface(self):
        self.assertEqual(mends(WIDE, "filling", "behind", ROWS), ((1,),))
        self.assertEqual(mends(WIDE, "filling", "any", ROWS), ((0, 1),))
        self.assertEqual(mends(CLEAN, "filling", "behind", ((0, None),)), ((),))
        call = lambda: mends(WIDE, "filling", "behind", ROWS + ((1, None),))
        self.assert_told(InvalidChanges, 2, call)

    def test_drawn_programs_and_changes(self):
        draw = random.Random(1)
        sizes = {}
        for layers in drawn_programs(draw, 500):
            changes = right_changes(drawn_changes(draw, layers))
            found = self.assert_mends(layers, draw.choice(KINDS), draw.choice(PLANS), changes)
            for chosen in found:
                sizes[len(chosen)] = sizes.get(len(chosen), 0) + 1
            sizes[None] = sizes.get(None, 0) + (found == ())
        self.assertGreater(min(sizes.get(many, 0) for many in (0, 1, 2, None)), 5, sizes)

    def test_changes_of_all_four_layers(self):
        draw = random.Random(2)
        asked = 0
        for layers in drawn_programs(draw, 1500):
            if len(layers) == 4:
                asked += 1
                changes = [(index, draw.choice((None, "clear", layer.replace("line", "row"))))
                           for index, layer in enumerate(layers)]
                draw.shuffle(changes)
                changes = right_changes(changes)
                for kind in ("filling", "other"):
                    self.assert_mends(layers, kind, draw.choice(PLANS), changes)
        self.assertGreater(asked, 100)

    def test_several_least_sets(self):
        layers = ("look line ahead 1", "look line back 1", "look line ahead 1")
        changes = ((0, "clear"), (1, "clear"), (2, "clear"))
        self.assertEqual(mends(Program(layers), "filling", "behind", changes), ((0,), (2,)))
        layers = ("look line ahead 1 own", "clear", "look line ahead 1 own", "look line back 1")
        changes = ((2, None), (0, None), (1, "look row back 1 every 2 own"))
        self.assertEqual(mends(Program(layers), "filling", "any", changes), ((0,), (1,)))
        layers = ("look true at 1 ahead", "look true at 1 ahead")
        changes = ((1, "look true at 1 back"), (0, "look true at 1 back"))
        self.assertEqual(mends(Program(layers), "other", "joined", changes), ((0,), (1,)))

    def test_changes_that_mend_together_alone(self):
        # With each of them by itself a place holds another one, with both it holds itself alone.
        layers = ("look line at 2 ahead", "look line at 1 ahead")
        changes = ((0, "look line at 2 back"), (1, "look line at 2 back"))
        self.assertEqual(mends(Program(layers), "later", "any", changes), ((0,), (1,)))
        changes = ((0, "look line at 3 back"), (1, "look line at 3 ahead"))
        self.assertEqual(mends(Program(layers), "later", "any", changes), ((0,),))
        self.assertEqual(mends(Program(layers), "strange", "any", changes), ((0, 1),))

    def test_a_set_that_does_not_mend_though_a_part_of_it_does(self):
        layers = ("look line at 1 back", "look line at 3 ahead")
        changes = ((0, "look line at 3 back"), (1, "look line at 1 ahead"))
        self.assertEqual(mends(Program(layers), "strange", "any", changes), ((0,), (1,)))
        changes += ((0, "clear"),)
        self.assert_told(InvalidChanges, 2, lambda: mends(Program(layers), "strange", "any", changes))

    def test_no_changes(self):
        self.assertEqual(mends(WIDE, "filling", "behind", ()), ())
        self.assertEqual(mends(WIDE, "filling", "joined", ()), ((),))

    def test_where_nothing_mends(self):
        changes = ((0, "look line back 2"), (1, "look line ahead 2"))
        self.assertEqual(mends(WIDE, "filling", "any", changes), ())

    def test_where_nothing_has_to_be_mended(self):
        changes = ((0, None), (1, None))
        self.assertEqual(mends(WIDE, "filling", "joined", changes), ((),))
        self.assertEqual(mends(CLEAN, "filling", "behind", changes + ((2, "clear"),)), ((),))

    def test_a_program_of_which_no_layer_is_left_is_none(self):
        self.assertEqual(mends(WIDE, "filling", "any", ((0, None), (1, None))), ())
        self.assertEqual(mends(Program(("look line at 1 ahead",)), "filling", "any", ((0, None),)), ())
        self.assertEqual(mends(WIDE, "filling", "front", ((0, None), (1, None))), ((0,),))
        self.assertEqual(mends(WIDE, "filling", "any", ((0, None), (1, "clear"))), ((0, 1),))

    def test_all_indexes_are_those_of_the_program_as_it_was(self):
        layers = ("look line back 1 own", "add row back 1", "look line ahead 1 own")
        changes = ((0, None), (2, "look row ahead 1 own"))
        self.assertEqual(mends(Program(layers), "filling", "any", changes), ((0, 1),))
        changes = ((2, "clear"), (1, None), (0, None))
        self.assertEqual(mends(Program(layers), "filling", "any", changes), ((0, 2),))

    def test_a_program_that_is_too_wide_is_none(self):
        layers = ("look line at 2 ahead", "look row ahead 3", "look row ahead 3")
        changes = ((0, "look row at 3 ahead"), (1, "look row ahead 2"))
        self.assertEqual(mends(Program(layers), "filling", "any", changes), ((0, 1),))
        self.assertEqual(mends(Program(layers), "filling", "any", changes[:1]), ())
        changes = ((0, "look row at 3 ahead"), (1, None), (2, "clear"))
        self.assertEqual(mends(Program(layers), "filling", "any", changes), ((0, 1), (0, 2)))

    def test_a_change_that_changes_nothing(self):
        changes = ((0, "look line back 1 own"), (1, "look row ahead 1 own"))
        self.assertEqual(mends(WIDE, "filling", "behind", changes), ((1,),))

    def test_by_name(self):
        found = mends(changes=ROWS, plan="behind", kind="filling", program=WIDE)
        self.assertEqual(found, ((1,),))
        self.assertEqual(mends(WIDE, "filling", changes=ROWS, plan="any"), ((0, 1),))

    def test_equal_arguments_give_equal_results(self):
        draw = random.Random(3)
        for layers in drawn_programs(draw, 60):
            changes = right_changes(drawn_changes(draw, layers))
            again = Program.read("\n".join(layers))
            same = tuple([tuple(list(change)) for change in changes])
            found = mends(Program(layers), "strange", "any", changes)
            self.assertEqual(found, mends(again, "".join(list("strange")), "any", same))
            self.assertEqual((again.layers, same), (layers, changes))


class Errors(WrongArguments):

    def test_no_program(self):
        for value in WRONG_PROGRAMS:
            with self.subTest(repr(value)):
                self.assert_given(NotAProgram, value, lambda: mends(value, "later", "any", ()))
                call = lambda: mends(changes=(), plan="any", kind="later", program=value)
                self.assert_given(NotAProgram, value, call)

    def test_no_kind(self):
        for value in WRONG_KINDS:
            with self.subTest(repr(value)):
                self.assert_given(InvalidKind, value, lambda: mends(WIDE, value, "any", ()))
                call = lambda: mends(changes=ROWS, plan="any", kind=value, program=WIDE)
                self.assert_given(InvalidKind, value, call)

    def test_no_plan(self):
        for value in WRONG_PLANS:
            with self.subTest(repr(value)):
                self.assert_given(InvalidPlan, value, lambda: mends(WIDE, "later", value, ()))
                call = lambda: mends(changes=ROWS, plan=value, kind="later", program=WIDE)
                self.assert_given(InvalidPlan, value, call)

    def test_no_tuple(self):
        for value in NO_TUPLES:
            with self.subTest(repr(value)):
                self.assert_told(InvalidChanges, None, lambda: mends(WIDE, "later", "any", value))
                call = lambda: mends(changes=value, plan="any", kind="later", program=WIDE)
                self.assert_told(InvalidChanges, None, call)

    def test_no_change(self):
        for value in NO_CHANGES + [(0, layer) for layer in NO_LAYERS if layer is not None]:
            with self.subTest(repr(value)):
                for changes, index in (((value,), 0), ((ROWS[1], value), 1), ((value, ROWS[1]), 0),
                                       ((value, value), 0), ((ROWS[1], value, ROWS[1]), 1)):
                    call = lambda: mends(WIDE, "later", "any", changes)
                    self.assert_told(InvalidChanges, index, call)

    def test_no_index_of_a_layer(self):
        for layers in (("clear",), ("clear",) * 3, ("clear",) * 4):
            for value in WRONG_INDEXES + list(range(len(layers), 4)):
                with self.subTest(repr(value)):
                    call = lambda: mends(Program(layers), "later", "any", ((value, None),))
                    self.assert_told(InvalidChanges, 0, call)

    def test_two_changes_of_one_layer(self):
        four = Program(("clear",) * 4)
        for changes, index in ((((0, None), (0, None)), 1), (((0, None), (0, "clear")), 1),
                               (((1, "clear"), (0, None), (1, "clear")), 2),
                               (((3, None), (2, None), (1, None), (2, "clear")), 3),
                               (((3, None), (2, None), (2, None), (3, "clear")), 2)):
            self.assert_told(InvalidChanges, index, lambda: mends(four, "later", "any", changes))

    def test_a_fifth_change(self):
        four = Program(("clear",) * 4)
        changes = tuple((index, None) for index in range(4))
        self.assertEqual(mends(four, "later", "any", changes), ((),))
        for value in NO_CHANGES[:20] + [(0, None), (3, "clear")]:
            for more in ((value,), (value, value)):
                call = lambda: mends(four, "later", "any", changes + more)
                self.assert_told(InvalidChanges, 4, call)
            call = lambda: mends(four, "later", "any", changes[:3] + (None, value))
            self.assert_told(InvalidChanges, 3, call)

    def test_the_first_one_that_is_wrong(self):
        for wrong in (None, True, [], "clear ", -1, (1, 0), 4):
            for other in (False, {}, "any other", 7, wrong):
                self.assert_given(NotAProgram, wrong, lambda: mends(wrong, other, other, other))
                self.assert_given(NotAProgram, wrong, lambda: mends(wrong, "later", "any", other))
                call = lambda: mends(changes=other, plan=other, kind=wrong, program=WIDE)
                self.assert_given(InvalidKind, wrong, call)
                call = lambda: mends(changes=other, plan=wrong, kind="later", program=WIDE)
                self.assert_given(InvalidPlan, wrong, call)

    def test_what_is_passed_is_not_changed(self):
        for wrong in ([1, -1], {"a": [1]}, ([1], 2)):
            before = copy.deepcopy(wrong)
            index = 0 if isinstance(wrong, tuple) else None
            self.assert_told(InvalidChanges, index, lambda: mends(WIDE, "later", "any", wrong))
            self.assertEqual(wrong, before)
        mends(WIDE, "filling", "any", ROWS)
        self.assertEqual(ROWS, ((0, "look row back 1 own"), (1, "look row ahead 1 own")))
        self.assertEqual(WIDE.layers, ("look line back 1 own", "look line ahead 1 own"))

    def test_the_function_is_defined_in_its_file(self):
        self.assertEqual(mends.__module__, module.__name__)


if __name__ == "__main__":
    unittest.main()
