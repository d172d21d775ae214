"""Tests of filledrows.certificates."""

import copy
import itertools
import random
import unittest

from filledrows import certificates as module
from filledrows.alike import alike, lonely, unlike
from filledrows.asking import can_hold
from filledrows.certificates import certify_ever, certify_more, certify_never, certify_unlike
from filledrows.checker import accepts
from filledrows.errors import InvalidKind, InvalidPlan, NotAProgram, TooMany
from filledrows.programs import Program
from filledrows.running import alone, held
from tests.papers import are_right, is_chain
from tests.samples import (KINDS, LAYERS, LAYERS_BY_WIDTH, PLANS, SHORT_LINES, WRONG_KINDS, WRONG_PLANS,
                           WRONG_PROGRAMS, WrongArguments, changed_layers, drawn_programs, is_of_plan,
                           layer_width, places, size)

WIDE = Program(("look line back 1 own", "look line ahead 1 own"))
CLEAN = Program(("look line back 1 own", "clear", "look line ahead 1 own"))
BROAD = Program(("look row back 3", "look row ahead 2"))

VERY_SHORT_LINES = [line for line in SHORT_LINES if size(line) <= 4]


class Papers(WrongArguments):

    def assert_pair(self, found, words):
        """Asks whether it is a pair of a claim and a certificate; returns both."""
        self.assertIs(type(found), tuple)
        claim, certificate = found
        self.assertIs(type(claim), tuple)
        self.assertIs(type(certificate), tuple)
        self.assertIn(claim[0], words)
        self.assertIs(accepts(claim, certificate), True, found)
        return claim, certificate

    def assert_machines(self, machines, many):
        """Asks whether these are so many machines of up to 5000 states."""
        self.assertEqual(len(machines), many)
        for machine in machines:
            self.assertIs(type(machine), tuple)
            self.assertIn(len(machine), range(1, 5001))
            for state in machine:
                self.assertIs(type(state), tuple)
                self.assertEqual(len(state), 13)
                self.assertIs(type(state[12]), bool)
                for reached in state[:12]:
                    self.assertIn(type(reached), (int, type(None)))
                    self.assertTrue(reached is None or reached in range(len(machine)))

    def assert_chain(self, program, kind, plan, certificate, steps):
        """Asks whether it is a line with a chain of so many steps, or of a multiple of them."""
        line, chain = certificate
        self.assertTrue(is_of_plan(line, plan))
        self.assertIs(type(chain), tuple)
        self.assertTrue(is_chain(program.layers, kind, line, chain), (program.layers, kind, certificate))
        self.assertEqual((len(chain) - 1) % steps, 0)
        self.assertGreater(len(chain), steps)

    def assert_never(self, program, kind, plan):
        """Asks whether what is certified of one round is true and shown."""
        found = certify_never(program, kind, plan)
        claim, certificate = self.assert_pair(found, ("never", "can"))
        self.assertEqual(claim[1:], (str(program), kind, plan))
        holds = can_hold(program, kind, plan)
        self.assertEqual(claim[0], "can" if holds else "never")
        if holds:
            self.assert_chain(program, kind, plan, certificate, len(program))
            self.assertEqual(len(certificate[1]), len(program) + 1)
        else:
            self.assert_machines(certificate, len(program))
        return found

    def assert_ever(self, program, kind, plan):
        """Asks whether what is certified of any number of rounds is true and shown."""
        found = certify_ever(program, kind, plan)
        claim, certificate = self.assert_pair(found, ("ever", "sometime"))
        self.assertEqual(claim[1:], (str(program), kind, plan))
        holds = can_hold(program, kind, plan, rounds=None)
        self.assertEqual(claim[0], "sometime" if holds else "ever")
        if holds:
            self.assert_chain(program, kind, plan, certificate, len(program))
        else:
            self.assert_machines(certificate, len(program) + 1)
        return found

    def assert_triple(self, certificate, plan):
        """Asks whether it is a line of the plan with a true place and a place."""
        line, x, y = certificate
        self.assertTrue(is_of_plan(line, plan))
        self.assertTrue(places(line)[x][1])
        self.assertIn(y, range(size(line)))
        return line, x, y


class Never(Papers):

    def test_the_examples_of_the_interface(self):
        claim, certificate = certify_never(CLEAN, "filling", "behind")
        self.assertEqual((claim[0], len(certificate)), ("never", 3))
        self.assertIs(accepts(claim, certificate), True)
        self.assertIs(accepts(("never", str(WIDE), "filling", "behind"), certificate[:2]), False)
        self.assertEqual(certify_never(WIDE, "filling", "behind")[0][0], "can")
        self.assertEqual(certify_ever(CLEAN, "filling", "behind")[0][0], "ever")
        self.assertIsNone(certify_more(CLEAN, "behind"))

    def test_each_layer_on_each_plan(self):
        draw = random.Random(1)
        for layer, plan in itertools.product(LAYERS, PLANS):
            self.assert_never(Program((layer,)), draw.choice(KINDS), plan)

    def test_drawn_programs(self):
        draw = random.Random(2)
        words = {}
        for layers in drawn_programs(draw, 40):
            for kind, plan in itertools.product(KINDS, PLANS):
                claim, _ = self.assert_never(Program(layers), kind, plan)
                words[claim[0]] = words.get(claim[0], 0) + 1
        self.assertGreater(min(words["never"], words["can"]), 200)

    def test_the_machines_are_right_as_far_as_short_lines_go(self):
        draw = random.Random(3)
        asked = 0
        for layers in drawn_programs(draw, 200):
            kind, plan = draw.choice(KINDS), draw.choice(PLANS)
            claim, machines = certify_never(Program(layers), kind, plan)
            if claim[0] == "never":
                asked += 1
                right = are_right("never", layers, kind, plan, machines, VERY_SHORT_LINES)
                self.assertTrue(right, (layers, kind, plan))
        self.assertGreater(asked, 80)

    def test_programs_of_width_eight(self):
        draw = random.Random(4)
        for widths in ((3, 3, 2), (2, 2, 2, 2), (3, 2, 3, 0), (1, 3, 1, 3), (3, 1, 2, 2)) * 10:
            layers = tuple(draw.choice(LAYERS_BY_WIDTH[width]) for width in widths)
            for kind in KINDS:
                self.assert_never(Program(layers), kind, draw.choice(PLANS))

    def test_many_things_to_remember(self):
        far = [layer for layer in LAYERS if "around all every" in layer]
        draw = random.Random(5)
        asked = 0
        while asked < 25:
            layers = tuple(draw.choice(far + ["clear", "look row around 2"]) for _ in range(4))
            if sum(map(layer_width, layers)) == 8:
                asked += 1
                for kind in ("filling", "other", "later"):
                    self.assert_never(Program(layers), kind, "any")

    def test_by_name(self):
        found = certify_never(plan="behind", kind="filling", program=CLEAN)
        self.assertEqual(found, certify_never(CLEAN, "filling", "behind"))


class Ever(Papers):

    def test_each_layer_on_each_plan(self):
        draw = random.Random(6)
        for layer, plan in itertools.product(LAYERS, PLANS):
            self.assert_ever(Program((layer,)), draw.choice(KINDS), plan)

    def test_drawn_programs(self):
        draw = random.Random(7)
        words = {}
        for layers in drawn_programs(draw, 50, widest=4):
            for kind, plan in itertools.product(KINDS, PLANS):
                claim, _ = self.assert_ever(Program(layers), kind, plan)
                words[claim[0]] = words.get(claim[0], 0) + 1
        self.assertGreater(min(words["ever"], words["sometime"]), 200)

    def test_the_machines_are_right_as_far_as_short_lines_go(self):
        draw = random.Random(8)
        asked = 0
        for layers in drawn_programs(draw, 200, widest=4):
            kind, plan = draw.choice(KINDS), draw.choice(PLANS)
            claim, machines = certify_ever(Program(layers), kind, plan)
            if claim[0] == "ever":
                asked += 1
                right = are_right("ever", layers, kind, plan, machines, VERY_SHORT_LINES)
                self.assertTrue(right, (layers, kind, plan))
        self.assertGreater(asked, 80)

    def test_chains_over_several_rounds(self):
        for layers, kind, plan, rounds in (
                (("look line back 2 own", "look line at 2 ahead for true"), "earlier", "behind", 2),
                (("look line back 2 own", "look line at 2 ahead for true"), "earlier", "any", 2),
                (("look true back 1 own",), "other", "joined", 1)):
            program = Program(layers)
            claim, (line, chain) = self.assert_ever(program, kind, plan)
            self.assertEqual(claim[0], "sometime")
            self.assertEqual(len(chain), rounds * len(layers) + 1)

    def test_machines_with_many_states(self):
        for layers in (("look true at 1 ahead for true", "look true around all every 3", "clear", "clear"),
                       ("look true around all every 3", "look line around 1 for true", "clear", "clear")):
            claim, _ = self.assert_ever(Program(layers), "filling", "any")
            self.assertEqual(claim[0], "ever")

    def test_by_name(self):
        found = certify_ever(plan="behind", kind="filling", program=CLEAN)
        self.assertEqual(found, certify_ever(CLEAN, "filling", "behind"))


class Unlike(Papers):

    def test_drawn_programs(self):
        draw = random.Random(9)
        words = {None: 0, "unlike": 0}
        for layers in drawn_programs(draw, 120):
            one, other = Program(layers), Program(changed_layers(draw, layers))
            for plan in PLANS:
                found = certify_unlike(one, other, plan)
                self.assertIs(found is None, alike(one, other, plan), (layers, other.layers, plan))
                words[None if found is None else "unlike"] += 1
                if found is not None:
                    claim, certificate = self.assert_pair(found, ("unlike",))
                    self.assertEqual(claim[1:], (str(one), str(other), plan))
                    line, x, y = self.assert_triple(certificate, plan)
                    self.assertNotEqual(y in held(one, line)[x], y in held(other, line)[x])
                    self.assertEqual(size(line), size(unlike(one, other, plan)[0]))
        self.assertGreater(min(words.values()), 100)

    def test_known_ones(self):
        self.assertIsNone(certify_unlike(CLEAN, WIDE, "front"))
        self.assertIsNone(certify_unlike(WIDE, WIDE, "any"))
        claim, certificate = certify_unlike(CLEAN, WIDE, "behind")
        self.assertEqual(claim, ("unlike", str(CLEAN), str(WIDE), "behind"))
        self.assertEqual(certificate, ((1, -1), 0, 1))
        layers = ("look row at 3 back", "look row at 3 back", "look row at 2 back")
        found = certify_unlike(Program(layers), Program(layers[:2] + ("look row back 1 every 2",)), "any")
        self.assertEqual(size(self.assert_pair(found, ("unlike",))[1][0]), 9)

    def test_by_name(self):
        found = certify_unlike(plan="behind", other=WIDE, one=CLEAN)
        self.assertEqual(found, certify_unlike(CLEAN, WIDE, "behind"))


class More(Papers):

    def test_drawn_programs(self):
        draw = random.Random(10)
        words = {None: 0, "more": 0}
        for layers in drawn_programs(draw, 120):
            program = Program(layers)
            for plan in PLANS:
                found = certify_more(program, plan)
                self.assertIs(found is None, lonely(program, plan), (layers, plan))
                words[None if found is None else "more"] += 1
                if found is not None:
                    claim, certificate = self.assert_pair(found, ("more",))
                    self.assertEqual(claim[1:], (str(program), plan))
                    line, x, y = self.assert_triple(certificate, plan)
                    self.assertIn(y, held(program, line)[x])
                    self.assertNotIn(y, alone(program, line)[x])
        self.assertGreater(min(words.values()), 100)

    def test_by_name(self):
        found = certify_more(plan="behind", program=WIDE)
        self.assertEqual(found, certify_more(WIDE, "behind"))
        self.assertEqual(found[0], ("more", str(WIDE), "behind"))


class Results(WrongArguments):

    def test_equal_arguments_give_equal_results(self):
        draw = random.Random(11)
        for layers in drawn_programs(draw, 40, widest=4):
            others = changed_layers(draw, layers)
            one, other = Program(layers), Program(others)
            again = Program.read("\n".join(layers)), Program.read("\n".join(others))
            kind, plan = draw.choice(KINDS), draw.choice(PLANS)
            same = "".join(list(kind)), "".join(list(plan))
            self.assertEqual(certify_never(one, kind, plan), certify_never(again[0], *same))
            self.assertEqual(certify_ever(one, kind, plan), certify_ever(again[0], *same))
            self.assertEqual(certify_unlike(one, other, plan), certify_unlike(*again, same[1]))
            self.assertEqual(certify_more(one, plan), certify_more(again[0], same[1]))
            self.assertEqual((one.layers, other.layers), (layers, others))

    def test_the_functions_are_defined_in_their_file(self):
        for function in (certify_never, certify_ever, certify_unlike, certify_more):
            self.assertEqual(function.__module__, module.__name__)


class Errors(WrongArguments):

    def test_no_program(self):
        for value in WRONG_PROGRAMS:
            with self.subTest(repr(value)):
                for function in (certify_never, certify_ever):
                    self.assert_given(NotAProgram, value, lambda: function(value, "later", "any"))
                    call = lambda: function(plan="any", kind="later", program=value)
                    self.assert_given(NotAProgram, value, call)
                self.assert_given(NotAProgram, value, lambda: certify_unlike(value, WIDE, "any"))
                self.assert_given(NotAProgram, value, lambda: certify_unlike(WIDE, value, "any"))
                call = lambda: certify_unlike(plan="any", other=value, one=WIDE)
                self.assert_given(NotAProgram, value, call)
                self.assert_given(NotAProgram, value, lambda: certify_more(value, "any"))
                self.assert_given(NotAProgram, value, lambda: certify_more(plan="any", program=value))

    def test_no_kind(self):
        for value in WRONG_KINDS:
            with self.subTest(repr(value)):
                for function in (certify_never, certify_ever):
                    self.assert_given(InvalidKind, value, lambda: function(WIDE, value, "any"))
                    call = lambda: function(plan="any", kind=value, program=WIDE)
                    self.assert_given(InvalidKind, value, call)

    def test_no_plan(self):
        for value in WRONG_PLANS:
            with self.subTest(repr(value)):
                for function in (certify_never, certify_ever):
                    self.assert_given(InvalidPlan, value, lambda: function(WIDE, "later", value))
                    call = lambda: function(plan=value, kind="later", program=WIDE)
                    self.assert_given(InvalidPlan, value, call)
                self.assert_given(InvalidPlan, value, lambda: certify_unlike(WIDE, WIDE, value))
                self.assert_given(InvalidPlan, value, lambda: certify_more(WIDE, value))
                self.assert_given(InvalidPlan, value, lambda: certify_more(plan=value, program=WIDE))

    def test_too_many(self):
        for widths in itertools.product(range(4), repeat=3):
            if sum(widths) <= 8:
                program = Program(tuple(LAYERS_BY_WIDTH[width][0] for width in widths))
                if sum(widths) > 4:
                    self.assert_told(TooMany, 4, lambda: certify_ever(program, "later", "any"))
                else:
                    self.assertIn(certify_ever(program, "later", "any")[0][0], ("ever", "sometime"))
                self.assertIn(certify_never(program, "later", "any")[0][0], ("never", "can"))

    def test_too_many_comes_last(self):
        for wrong in (None, True, 0, "x", []):
            self.assert_given(InvalidKind, wrong, lambda: certify_ever(BROAD, wrong, "any"))
            self.assert_given(InvalidPlan, wrong, lambda: certify_ever(BROAD, "later", wrong))
        call = lambda: certify_ever(plan="any", kind="later", program=BROAD)
        self.assert_told(TooMany, 4, call)

    def test_the_first_one_that_is_wrong(self):
        for wrong in (None, True, [], "clear", -1, (1, 0), 4):
            for other in (False, {}, "any other", 7, wrong):
                for function in (certify_never, certify_ever):
                    self.assert_given(NotAProgram, wrong, lambda: function(wrong, other, other))
                    call = lambda: function(plan=other, kind=wrong, program=BROAD)
                    self.assert_given(InvalidKind, wrong, call)
                self.assert_given(NotAProgram, wrong, lambda: certify_unlike(wrong, other, other))
                self.assert_given(NotAProgram, wrong, lambda: certify_unlike(WIDE, wrong, other))
                self.assert_given(NotAProgram, wrong, lambda: certify_more(plan=other, program=wrong))

    def test_what_is_passed_is_not_changed(self):
        for wrong in ([1, -1], {"a": [1]}, ([1], 2)):
            before = copy.deepcopy(wrong)
            self.assert_given(NotAProgram, wrong, lambda: certify_unlike(WIDE, wrong, "any"))
            self.assert_given(InvalidKind, wrong, lambda: certify_never(WIDE, wrong, "any"))
            self.assert_given(InvalidPlan, wrong, lambda: certify_ever(WIDE, "later", wrong))
            self.assertEqual(wrong, before)


if __name__ == "__main__":
    unittest.main()
