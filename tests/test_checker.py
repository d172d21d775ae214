"""Tests of filledrows.checker."""

import copy
import itertools
import random
import unittest
import unittest.mock

from filledrows import checker as module
from filledrows.asking import can_hold
from filledrows.certificates import certify_ever, certify_more, certify_never, certify_unlike
from filledrows.checker import accepts
from filledrows.programs import Program
from filledrows.running import alone, held
from tests.papers import are_right, is_chain
from tests.samples import (KINDS, LINES, NESTED, NO_LAYERS, ODD_VALUES, PLANS, SHORT_LINES, WRONG_KINDS,
                           WRONG_LINES, WRONG_PLANS, EqualToAll, Unhashable, changed_layer, changed_layers,
                           drawn_lines, drawn_programs, is_of_plan, layer_width, lines, of_kind, places,
                           plain_taken, size)

WIDE = "look line back 1 own\nlook line ahead 1 own"
CLEAN = "look line back 1 own\nclear\nlook line ahead 1 own"

# Two machines: the marks stand in the same piece, or anywhere.
SEEN = ((0, 0, 1, 1, 0, 0, 1, 1, 0, 0, None, None, False),
        (1, 1, None, None, 1, 1, None, None, 1, 1, None, None, True))
ALL = ((0,) * 12 + (True,),)
NOTHING = ((None,) * 12 + (False,),)

# Claims of all six forms with certificates for them.
RIGHT = [
    (("never", "look row first", "filling", "any"), (SEEN,)),
    certify_never(Program.read(CLEAN), "filling", "behind"),
    (("can", WIDE, "filling", "behind"), ((1, -1), (1, 1, 0))),
    (("can", WIDE, "filling", "any"), ((2, -1, 1), (2, 3, 3))),
    certify_ever(Program.read(CLEAN), "filling", "behind"),
    certify_ever(Program(("look row back 1",)), "later", "any"),
    (("sometime", WIDE, "filling", "behind"), ((1, -1), (1, 1, 0))),
    (("sometime", WIDE, "filling", "behind"), ((2, -1), (2, 2, 1, 1, 0))),
    (("sometime", "look row back 1", "earlier", "any"), ((4, -1), (0, 1, 2, 3))),
    (("unlike", CLEAN, WIDE, "behind"), ((1, -1), 0, 1)),
    (("unlike", WIDE, CLEAN, "behind"), ((1, -1), 0, 1)),
    (("more", WIDE, "behind"), ((1, -1), 0, 1)),
]

TEXTS = ["look row back 1", "add line back 1", "clear", "look row first"]

NO_TEXTS = ODD_VALUES + [value for value in NO_LAYERS if not isinstance(value, str)
                         or value != "clear\nclear"] + [
    WIDE + "\n", "\n" + WIDE, WIDE.replace("\n", " "), WIDE.replace("\n", "\n\n"), WIDE + " ",
    "\n".join(["clear"] * 5), "look row back 3\nlook row back 3\nlook row back 3",
    Program.read(WIDE), Program.read(WIDE).layers, [WIDE], (WIDE,), WIDE.upper(), "x\nclear",
]


def changed_once(values, others):
    """All tuples in which one of the values is another one."""
    for index in range(len(values)):
        for other in others:
            yield values[:index] + (other,) + values[index + 1:]


def changed_lengths(values):
    """Tuples that have one value too few or too many."""
    for index in range(len(values)):
        yield values[:index] + values[index + 1:]
        yield values[:index] + (values[index],) + values[index:]
    yield values + (None,)
    yield ()


def as_lists(value):
    """All values in which one tuple, however deep, is a list."""
    if isinstance(value, tuple):
        yield list(value)
        for index, part in enumerate(value):
            for other in as_lists(part):
                yield value[:index] + (other,) + value[index + 1:]


def padded(draw, machine, many):
    """A machine that accepts the same, with so many states, of which some are not reached."""
    states = list(machine)
    while len(states) < many:
        states.append(tuple(draw.choice((None, draw.randrange(many))) for _ in range(12))
                      + (draw.random() < 0.5,))
    return tuple(states)


def counting(draw, machine, many):
    """A machine that accepts the same, and counts the places, up to so many, again and again."""
    numbers = [0] + draw.sample(range(1, len(machine) * many), len(machine) * many - 1)
    found = [None] * len(numbers)
    for state, row in enumerate(machine):
        for count in range(many):
            moves = [None if reached is None else numbers[reached * many + (count + 1) % many]
                     for reached in row[:12]]
            found[numbers[state * many + count]] = tuple(moves) + row[12:]
    return tuple(found)


class Accepting(unittest.TestCase):

    def assert_accepts(self, claim, certificate, wanted):
        """Asks whether the checker gives this answer, and changes nothing."""
        self.assertIs(accepts(claim, certificate), wanted, (claim, certificate))


class Known(Accepting):

    def test_the_examples_of_the_interface(self):
        self.assert_accepts(("never", "look row first", "filling", "any"), (SEEN,), True)
        self.assert_accepts(("never", "add row first", "filling", "any"), (SEEN,), False)
        self.assert_accepts(("never", "look row first", "other", "any"), (SEEN,), False)
        claim, certificate = certify_never(Program.read(CLEAN), "filling", "behind")
        self.assert_accepts(claim, certificate, True)
        self.assert_accepts(("never", WIDE, "filling", "behind"), certificate[:2], False)
        self.assert_accepts(("can", WIDE, "filling", "behind"), ((1, -1), (1, 1, 0)), True)

    def test_claims_of_each_form(self):
        for claim, certificate in RIGHT:
            self.assert_accepts(claim, certificate, True)
        self.assertEqual(len({claim[0] for claim, _ in RIGHT}), 6)

    def test_each_with_the_certificates_of_the_others(self):
        alike = [{"can", "sometime"}, {"unlike", "more"}]
        for (claim, _), (other, certificate) in itertools.product(RIGHT, repeat=2):
            if claim[0] != other[0] and {claim[0], other[0]} not in alike:
                self.assert_accepts(claim, certificate, False)

    def test_by_name(self):
        claim, certificate = RIGHT[0]
        self.assertIs(accepts(certificate=certificate, claim=claim), True)
        self.assertIs(accepts(claim, certificate=()), False)

    def test_equal_arguments_give_equal_results(self):
        for claim, certificate in RIGHT:
            self.assert_accepts(copy.deepcopy(claim), copy.deepcopy(certificate), True)

    def test_what_is_passed_is_not_changed(self):
        for claim, certificate in RIGHT:
            for other in list(as_lists(claim))[:1] + [claim]:
                for another in list(as_lists(certificate))[:40]:
                    before = copy.deepcopy((other, another))
                    accepts(other, another)
                    self.assertEqual((other, another), before)

    def test_the_function_is_defined_in_its_file(self):
        self.assertEqual(accepts.__module__, module.__name__)


class Forms(Accepting):
    """Claims and certificates in which just one thing is wrong."""

    def test_any_value(self):
        values = ODD_VALUES + WRONG_LINES + [NESTED, "", "never", ("never",), RIGHT[0][0], RIGHT[0]]
        for value, other in itertools.product(values, repeat=2):
            self.assert_accepts(value, other, False)
        for claim, certificate in RIGHT:
            for value in values:
                self.assert_accepts(claim, value, False)
                if value is not RIGHT[0][0] or certificate is not RIGHT[0][1]:
                    self.assert_accepts(value, certificate, False)

    def test_a_part_of_the_claim_that_is_another_value(self):
        for claim, certificate in RIGHT:
            for other in changed_once(claim, ODD_VALUES + [NESTED, "", "x", (), claim]):
                self.assert_accepts(other, certificate, False)

    def test_one_part_too_few_or_too_many(self):
        for claim, certificate in RIGHT:
            for other in changed_lengths(claim):
                self.assert_accepts(other, certificate, False)
            for other in changed_lengths(certificate):
                self.assert_accepts(claim, other, False)

    def test_lists_for_tuples(self):
        for claim, certificate in RIGHT:
            self.assert_accepts(list(claim), certificate, False)
            for other in as_lists(certificate):
                self.assert_accepts(claim, other, False)

    def test_words(self):
        for claim, certificate in RIGHT:
            for word in ("", "Never", "never ", "cannot", "always", "sometimes", "alike", "lonely", "less"):
                self.assert_accepts((word,) + claim[1:], certificate, False)

    def test_texts(self):
        for claim, certificate in RIGHT:
            for value in NO_TEXTS:
                self.assert_accepts((claim[0], value) + claim[2:], certificate, False)
                if claim[0] == "unlike":
                    self.assert_accepts((claim[0], claim[1], value, claim[3]), certificate, False)

    def test_kinds_and_plans(self):
        for claim, certificate in RIGHT:
            for value in WRONG_PLANS:
                self.assert_accepts(claim[:-1] + (value,), certificate, False)
            if claim[0] not in ("unlike", "more"):
                for value in WRONG_KINDS:
                    self.assert_accepts(claim[:2] + (value,) + claim[3:], certificate, False)

    def test_lines(self):
        for claim, certificate in RIGHT:
            if claim[0] not in ("never", "ever"):
                for value in WRONG_LINES:
                    self.assert_accepts(claim, (value,) + certificate[1:], False)

    def test_lines_of_other_plans(self):
        for claim, certificate in RIGHT:
            if claim[0] not in ("never", "ever"):
                for plan in PLANS:
                    fits = is_of_plan(certificate[0], plan)
                    self.assert_accepts(claim[:-1] + (plan,), certificate, fits)

    def test_places(self):
        wrong = [value for value in ODD_VALUES if type(value) is not int] + [-1, -2, 60, 10 ** 39, "1", (1,)]
        for claim, (line, *rest) in [each for each in RIGHT if each[0][0] not in ("never", "ever")]:
            for value in wrong + [size(line), size(line) + 1, True, False]:
                if claim[0] in ("unlike", "more"):
                    self.assert_accepts(claim, (line, value, rest[1]), False)
                    self.assert_accepts(claim, (line, rest[0], value), False)
                else:
                    for chain in changed_once(rest[0], [value]):
                        self.assert_accepts(claim, (line, chain), False)

    def test_truth_values_for_places(self):
        self.assert_accepts(("can", WIDE, "filling", "behind"), ((1, -1), (1, True, 0)), False)
        self.assert_accepts(("can", WIDE, "filling", "behind"), ((1, -1), (1, 1, False)), False)
        self.assert_accepts(("can", WIDE, "filling", "behind"), ((True, -1), (1, 1, 0)), False)
        self.assert_accepts(("more", WIDE, "behind"), ((1, -1), False, 1), False)
        self.assert_accepts(("more", WIDE, "behind"), ((1, -1), 0, True), False)

    def test_states_of_machines(self):
        for claim, machines in [each for each in RIGHT if each[0][0] in ("never", "ever")]:
            for index, machine in enumerate(machines):
                many = len(machine)
                moves = [value for value in ODD_VALUES + [many, many + 1, -1, "0", (0,), [0]]
                         if not (value is None or type(value) is int and 0 <= value < many)]
                state = machine[-1]
                states = [state[:k] + (value,) + state[k + 1:] for value in moves for k in (0, 5, 11)]
                states += [state[:12] + (value,) for value in ODD_VALUES if not isinstance(value, bool)]
                states += [state[:12], state[1:], state + (True,), state[:12] + (None, True), (), None, 0,
                           list(state), {k: part for k, part in enumerate(state)}, "state", state[12:] + state[:12]]
                for other in states:
                    changed = machine[:-1] + (other,)
                    certificate = machines[:index] + (changed,) + machines[index + 1:]
                    self.assert_accepts(claim, certificate, False)
                for other in ODD_VALUES + [(), [], "", list(machine), NESTED]:
                    self.assert_accepts(claim, machines[:index] + (other,) + machines[index + 1:], False)

    def test_objects_that_equal_everything(self):
        for claim, certificate in RIGHT:
            for value in (EqualToAll(), Unhashable(), unittest.mock.ANY):
                for other in changed_once(claim, [value]):
                    self.assert_accepts(other, certificate, False)
                for other in changed_once(certificate, [value]):
                    self.assert_accepts(claim, other, False)
                self.assert_accepts((value,) * len(claim), certificate, False)


class Chains(Accepting):

    def test_drawn_chains_against_a_plain_walk(self):
        draw = random.Random(1)
        found = {True: 0, False: 0}
        for layers in drawn_programs(draw, 1200):
            (line,) = drawn_lines(draw, 1, 7)
            kind, plan = draw.choice(KINDS), draw.choice(PLANS)
            for rounds in (1, 1, 2, 3):
                chain = self.drawn_chain(draw, layers, line, rounds)
                if draw.random() < 0.2:
                    chain = tuple(draw.choice((place, draw.randrange(size(line)))) for place in chain)
                wanted = is_of_plan(line, plan) and is_chain(layers, kind, line, chain)
                text = "\n".join(layers)
                self.assert_accepts(("can", text, kind, plan), (line, chain), wanted and rounds == 1)
                self.assert_accepts(("sometime", text, kind, plan), (line, chain), wanted)
                found[wanted] += 1
        self.assertGreater(min(found.values()), 50)

    def drawn_chain(self, draw, layers, line, rounds):
        """A chain over so many rounds that goes from taken places to takers, while there are any."""
        chain = [draw.randrange(size(line))]
        for layer in layers * rounds:
            takers = [x for x, taken in enumerate(plain_taken(layer, line)) if chain[-1] in taken]
            chain.append(draw.choice(takers or range(size(line))))
        return tuple(chain)

    def test_lengths_of_chains(self):
        line = (9,)
        text = "look row back 1\nlook row at 1 back"
        for many in range(10):
            chain = tuple(range(many))
            self.assert_accepts(("can", text, "earlier", "any"), (line, chain), many == 3)
            self.assert_accepts(("sometime", text, "earlier", "any"), (line, chain), many in (3, 5, 7, 9))
        text = "look row back 1"
        for many in range(10):
            chain = tuple(range(many))
            self.assert_accepts(("can", text, "earlier", "any"), (line, chain), many == 2)
            self.assert_accepts(("sometime", text, "earlier", "any"), (line, chain), many >= 2)

    def test_lines_of_sixty_places(self):
        chain = tuple(range(60))
        for line, plan in (((60,), "behind"), ((60,), "any"), ((60,), "packed")):
            self.assert_accepts(("sometime", "look row back 1", "earlier", plan), (line, chain), True)
            self.assert_accepts(("sometime", "look line back 1", "other", plan), (line, chain), False)
        self.assert_accepts(("sometime", "look row back 1", "earlier", "any"), ((59, 1), chain), False)
        self.assert_accepts(("sometime", "look true back 1", "other", "joined"), ((59, 1), chain), True)
        self.assert_accepts(("sometime", "look line back 1", "filling", "front"), ((-59, 1), chain), True)
        self.assert_accepts(("sometime", "look row back 1", "earlier", "any"), ((61,), chain), False)
        self.assert_accepts(("can", "look row first", "earlier", "any"), ((60,), (0, 59)), True)

    def test_long_chains(self):
        text = "look line back 1\nlook line ahead 1"
        claim = ("sometime", text, "filling", "any")
        for rounds in (1, 2, 1000, 20000):
            # A place takes from the one before it, and then from the one behind it.
            self.assert_accepts(claim, ((3, -1), (3,) + (4, 3) * rounds), False)
            self.assert_accepts(claim, ((3, -2), (3,) + (4, 3) * rounds), False)
            self.assert_accepts(claim, ((3, -2, 1), (4,) + (5, 4) * (rounds - 1) + (5, 5)), False)
            self.assert_accepts(claim, ((3, -2, 1), (4,) + (5, 4) * (rounds - 1) + (5,)), False)
            own = ("sometime", "add line back 1\nadd line ahead 1", "filling", "any")
            self.assert_accepts(own, ((3, -2, 1), (4,) + (5, 4) * (rounds - 1) + (5, 5)), True)
            self.assert_accepts(own, ((3, -2, 1), (4,) + (5, 4) * (rounds - 1) + (5,)), False)
            self.assert_accepts(own, ((3, -2, 1), (4,) + (5, 4) * (rounds - 1) + (5, 5, 5)), False)
            broken = (4,) + (5, 4) * (rounds // 2) + (3,) + (4,) + (5, 4) * (rounds - rounds // 2) + (5, 5)
            self.assert_accepts(own, ((3, -2, 1), broken), False)

    def test_the_ends_of_a_chain(self):
        # The last place is true, and the first one is of the kind for it.
        text = "add line around 1"
        for line, chain, kinds in (((1, -1), (1, 0), ("filling", "strange")), ((1, -1), (0, 1), ()),
                                   ((1, 1), (0, 1), ("other", "strange")), ((2,), (0, 1), ("earlier",)),
                                   ((2,), (1, 0), ("later",)), ((2,), (1, 1), ()), ((-2,), (0, 1), ())):
            for kind in KINDS:
                self.assert_accepts(("can", text, kind, "any"), (line, chain), kind in kinds)


class Triples(Accepting):

    def test_unlike_against_what_is_held(self):
        draw = random.Random(2)
        found = {True: 0, False: 0}
        for layers in drawn_programs(draw, 400):
            others = changed_layers(draw, layers)
            (line,) = drawn_lines(draw, 1, 6)
            plan = draw.choice(PLANS)
            held_one, held_other = held(Program(layers), line), held(Program(others), line)
            for x, y in itertools.product(range(size(line)), repeat=2):
                wanted = is_of_plan(line, plan) and places(line)[x][1]
                wanted = wanted and (y in held_one[x]) != (y in held_other[x])
                claim = ("unlike", "\n".join(layers), "\n".join(others), plan)
                self.assert_accepts(claim, (line, x, y), wanted)
                found[wanted] += 1
        self.assertGreater(min(found.values()), 100)

    def test_more_against_what_is_held(self):
        draw = random.Random(3)
        found = {True: 0, False: 0}
        for layers in drawn_programs(draw, 400):
            (line,) = drawn_lines(draw, 1, 6)
            plan = draw.choice(PLANS)
            held_here, held_alone = held(Program(layers), line), alone(Program(layers), line)
            for x, y in itertools.product(range(size(line)), repeat=2):
                wanted = is_of_plan(line, plan) and y in held_here[x] and y not in held_alone[x]
                wanted = wanted and places(line)[x][1]
                self.assert_accepts(("more", "\n".join(layers), plan), (line, x, y), wanted)
                found[wanted] += 1
        self.assertGreater(min(found.values()), 100)

    def test_filling_places_that_differ_show_nothing(self):
        self.assert_accepts(("unlike", "look line around 1", "look true around 1 for true", "any"),
                            ((-2,), 0, 1), False)
        self.assert_accepts(("more", "look line around 1", "any"), ((-2,), 0, 1), False)

    def test_lines_of_sixty_places(self):
        claim = ("more", "look line ahead all", "any")
        self.assert_accepts(claim, ((1, -59), 0, 59), True)
        self.assert_accepts(claim, ((60,), 0, 59), False)
        self.assert_accepts(("unlike", "look line ahead all", "look line ahead 3", "any"), ((60,), 0, 59), True)
        self.assert_accepts(("unlike", "look line ahead all", "look line ahead 3", "any"), ((60,), 57, 59), False)


class Machines(Accepting):

    def plainly_right(self, claim, machines):
        """Whether the machines are right as far as lines of a few places show."""
        layers = tuple(claim[1].split("\n"))
        for many in range(1, 8):
            # Longer lines are asked for only where the checker has found something wrong on one.
            if many > 4 and accepts(claim, machines):
                return True
            if not are_right(claim[0], layers, claim[2], claim[3], machines, lines(many)):
                return False
        return True

    def assert_changed(self, claim, machines, draw, many):
        """Compares the answers to machines with small changes with what lines show."""
        answers = {True: 0, False: 0}
        for _ in range(many):
            index = draw.randrange(len(machines))
            machine = [list(state) for state in machines[index]]
            for _ in range(draw.choice((1, 1, 2))):
                state, at = draw.randrange(len(machine)), draw.randrange(13)
                if at == 12 or draw.random() < 0.2:
                    machine[state][12] = not machine[state][12]
                else:
                    machine[state][at] = draw.choice((None, draw.randrange(len(machine))))
            changed = tuple(tuple(state) for state in machine)
            certificate = machines[:index] + (changed,) + machines[index + 1:]
            right = self.plainly_right(claim, certificate)
            self.assert_accepts(claim, certificate, right)
            answers[right] += 1
        return answers

    def test_small_changes_of_machines_for_never(self):
        draw = random.Random(4)
        answers = {True: 0, False: 0}
        asked = 0
        while asked < 25:
            (layers,) = drawn_programs(draw, 1)
            claim, machines = certify_never(Program(layers), draw.choice(KINDS), draw.choice(PLANS))
            if claim[0] == "never" and 3 <= max(map(len, machines)) <= 14:
                asked += 1
                for right, many in self.assert_changed(claim, machines, draw, 14).items():
                    answers[right] += many
        self.assertGreater(min(answers.values()), 40, answers)

    def test_small_changes_of_machines_for_ever(self):
        draw = random.Random(5)
        answers = {True: 0, False: 0}
        asked = 0
        while asked < 25:
            (layers,) = drawn_programs(draw, 1, widest=4)
            claim, machines = certify_ever(Program(layers), draw.choice(KINDS), draw.choice(PLANS))
            if claim[0] == "ever" and 3 <= max(map(len, machines)) <= 12:
                asked += 1
                for right, many in self.assert_changed(claim, machines, draw, 14).items():
                    answers[right] += many
        self.assertGreater(min(answers.values()), 40, answers)

    def test_drawn_machines(self):
        draw = random.Random(6)
        answers = {True: 0, False: 0}
        for _ in range(4000):
            many = draw.randint(1, 3)
            machine = tuple(tuple(draw.choice((None, draw.randrange(many), draw.randrange(many)))
                                  for _ in range(12)) + (draw.random() < 0.5,) for _ in range(many))
            text, kind, plan = draw.choice(TEXTS), draw.choice(KINDS), draw.choice(PLANS)
            right = are_right("never", (text,), kind, plan, (machine,), SHORT_LINES)
            self.assert_accepts(("never", text, kind, plan), (machine,), right)
            answers[right] += 1
        self.assertGreater(answers[False], 1000)

    def test_false_claims_with_the_machines_of_true_ones(self):
        draw = random.Random(7)
        refused = 0
        while refused < 150:
            (layers,) = drawn_programs(draw, 1)
            kind, plan = draw.choice(KINDS), draw.choice(PLANS)
            claim, machines = certify_never(Program(layers), kind, plan)
            if claim[0] == "never":
                for _ in range(10):
                    index = draw.randrange(len(layers))
                    others = layers[:index] + (changed_layer(draw, layers[index]),) + layers[index + 1:]
                    if sum(map(layer_width, others)) <= 8:
                        for kind, plan in ((claim[2], claim[3]), (draw.choice(KINDS), claim[3]),
                                           (claim[2], draw.choice(PLANS))):
                            if can_hold(Program(others), kind, plan):
                                self.assert_accepts(("never", "\n".join(others), kind, plan), machines, False)
                                refused += 1

    def test_false_claims_about_any_number_of_rounds(self):
        draw = random.Random(8)
        refused = 0
        while refused < 100:
            (layers,) = drawn_programs(draw, 1, widest=4)
            kind, plan = draw.choice(KINDS), draw.choice(PLANS)
            claim, machines = certify_ever(Program(layers), kind, plan)
            if claim[0] == "ever":
                for _ in range(6):
                    others = tuple(changed_layer(draw, layer) for layer in layers)
                    if sum(map(layer_width, others)) <= 4 and can_hold(Program(others), kind, plan, rounds=None):
                        self.assert_accepts(("ever", "\n".join(others), kind, plan), machines, False)
                        refused += 1

    def test_what_holds_for_one_round_alone_is_not_accepted_for_any_number(self):
        text = "look line back 2 own\nlook line at 2 ahead for true"
        claim, machines = certify_never(Program.read(text), "earlier", "behind")
        self.assertEqual(claim[0], "never")
        for first in (SEEN, ALL, NOTHING) + machines:
            self.assert_accepts(("ever", text, "earlier", "behind"), (first,) + machines, False)

    def test_machines_that_accept_everything_or_nothing(self):
        self.assert_accepts(("never", "look row back 1", "later", "any"), (ALL,), False)
        self.assert_accepts(("never", "look row back 1", "later", "any"), (NOTHING,), False)
        self.assert_accepts(("never", "look row back 1 every 2", "later", "any"), (NOTHING,), True)
        self.assert_accepts(("never", "look row back 1 every 2", "later", "any"), (ALL,), False)
        self.assert_accepts(("never", "clear\nlook row back 1 every 2", "later", "any"), (ALL, NOTHING), True)
        self.assert_accepts(("never", "look row back 1 every 2\nclear", "later", "any"), (ALL, NOTHING), False)
        self.assert_accepts(("never", "look row back 1", "filling", "joined"), (ALL,), True)
        self.assert_accepts(("never", "look row back 1", "other", "front"), (ALL,), True)
        self.assert_accepts(("never", "look line around all", "filling", "joined"), (ALL,), True)
        self.assert_accepts(("never", "look line around all", "filling", "packed"), (ALL,), False)
        self.assert_accepts(("ever", "look line around all", "filling", "joined"), (ALL, ALL), True)
        self.assert_accepts(("ever", "look line around all", "filling", "joined"), (ALL, NOTHING), False)
        self.assert_accepts(("ever", "look line around all", "filling", "joined"), (NOTHING, ALL), False)
        self.assert_accepts(("ever", "look row back 1 every 2", "filling", "joined"), (ALL, NOTHING), True)
        self.assert_accepts(("ever", "look row back 1 every 2", "filling", "joined"), (NOTHING, NOTHING), False)
        self.assert_accepts(("ever", "look row back 1 every 2", "filling", "any"), (ALL, NOTHING), False)

    def test_lines_that_are_not_of_the_plan_do_not_count(self):
        # This machine accepts all pairs of places on lines with a filling at the end, and else the same.
        machine = ((0, 1, 2, 3, 0, 1, 2, 3, None, None, None, None, False),
                   (1, None, None, None, 1, None, None, None, 3, None, 3, None, False),
                   (2, None, None, None, 2, None, None, None, 3, 3, None, None, False),
                   (3, None, None, None, 3, None, None, None, 3, 3, 3, 3, True))
        for plan in PLANS:
            right = are_right("never", ("clear",), "filling", plan, (machine,), LINES)
            self.assertIs(right, plan in ("joined",))
            self.assert_accepts(("never", "clear", "filling", plan), (machine,), right)

    def test_a_machine_that_is_wrong_on_long_lines_alone(self):
        claim = ("never", "look row first", "filling", "any")
        for many in (10, 100, 1000):
            # It counts the places, and says of lines with so many that any place holds any other one.
            rows = []
            for count in range(many):
                rows.append((count + 1,) * 12 + (False,))
            late = tuple(rows) + ((many,) * 12 + (True,),)
            self.assert_accepts(claim, (late,), False)
            both = tuple(self.either(SEEN, many))
            self.assert_accepts(claim, (both,), False)
            self.assert_accepts(("never", "look row first", "filling", "joined"), (both,), True)

    def either(self, machine, many):
        """The states of a machine that accepts what this one does, and all lines with so many places."""
        for count in range(many + 1):
            for row in machine:
                yield tuple(None if reached is None and count + 1 < many else
                            min(count + 1, many) * len(machine) + (reached or 0)
                            for reached in row[:12]) + (row[12] or count == many,)

    def test_states_that_are_not_reached(self):
        draw = random.Random(9)
        for claim, machines in RIGHT[:2] + RIGHT[4:6]:
            for many in (20, 300, 5000):
                self.assert_accepts(claim, tuple(padded(draw, machine, many) for machine in machines), True)
                last = padded(draw, machines[-1], many)
                wrong = machines[:-1] + (((None,) * 12 + (False,),) + last[1:],)
                self.assert_accepts(claim, wrong, False)

    def test_machines_with_many_states(self):
        draw = random.Random(10)
        for claim, machines in RIGHT[:2] + RIGHT[4:6]:
            for most in (100, 5000):
                certificate = tuple(counting(draw, machine, (most - 7 * index) // len(machine))
                                    for index, machine in enumerate(machines))
                self.assertGreater(len(certificate[0]), most * 9 // 10)
                self.assert_accepts(claim, certificate, True)
                for text in (WIDE, "look line ahead 1", CLEAN.replace("clear", "add row back 1")):
                    false = (claim[0], text, claim[2], "any")
                    if len(text.split("\n")) == len(claim[1].split("\n")):
                        self.assert_accepts(false, certificate, False)

    def test_machines_with_more_states_than_must_be_read(self):
        # Either answer may be given, as long as what is accepted is true.
        draw = random.Random(11)
        claim, machines = RIGHT[0]
        self.assertIn(accepts(claim, (padded(draw, SEEN, 5001),)), (True, False))
        self.assert_accepts(("never", "add row first", "filling", "any"), (padded(draw, SEEN, 6000),), False)

    def test_programs_of_width_eight(self):
        draw = random.Random(12)
        asked = 0
        while asked < 60:
            (layers,) = drawn_programs(draw, 1)
            if sum(map(layer_width, layers)) == 8:
                claim, machines = certify_never(Program(layers), draw.choice(KINDS), draw.choice(PLANS))
                if claim[0] == "never":
                    asked += 1
                    self.assert_accepts(claim, machines, True)
                    for last in (ALL, NOTHING, SEEN):
                        changed = machines[:-1] + (last,)
                        self.assert_accepts(claim, changed, self.plainly_right(claim, changed))
                    self.assert_accepts(claim, machines[:-1] + (ALL,), not self.any_kind(claim[2], claim[3]))

    def any_kind(self, kind, plan):
        """Whether on a line of the plan anything is of the kind for a true place."""
        return any(of_kind(kind, line, x, y) for line in SHORT_LINES if is_of_plan(line, plan)
                   for x in range(size(line)) for y in range(size(line)))

    def test_ever_for_programs_of_any_width(self):
        text = "look row back 3\nlook row back 3\nlook row at 2 back"
        self.assert_accepts(("ever", text, "filling", "joined"), (ALL,) * 4, True)
        same = self.same_piece()
        self.assert_accepts(("ever", text, "filling", "any"), (same,) * 4, True)
        self.assert_accepts(("ever", text, "other", "any"), (same,) * 4, True)
        self.assert_accepts(("ever", text, "strange", "any"), (same,) * 4, True)
        self.assert_accepts(("ever", text, "later", "any"), (same,) * 4, False)
        self.assert_accepts(("ever", text, "filling", "any"), (same,) * 3, False)
        self.assert_accepts(("ever", text.replace("row at", "line at"), "filling", "any"), (same,) * 4, False)

    def same_piece(self):
        """The machine that accepts marks in the same row, or in the same filling."""
        # States: no mark yet, one mark in a row, one in a filling, both marks.
        return ((0, 1, 1, 3, 0, 1, 1, 3, 0, 2, 2, 3, False),
                (None, None, None, None, 1, 3, 3, None, None, None, None, None, False),
                (None,) * 8 + (2, 3, 3, None, False),
                (3, None, None, None, 3, None, None, None, 3, None, None, None, True))


class Certified(Accepting):

    def test_what_is_certified_is_accepted_for_its_own_claim_alone(self):
        draw = random.Random(13)
        for layers in drawn_programs(draw, 60, widest=4):
            one, other = Program(layers), Program(changed_layers(draw, layers))
            kind, plan = draw.choice(KINDS), draw.choice(PLANS)
            for found in (certify_never(one, kind, plan), certify_ever(one, kind, plan),
                          certify_unlike(one, other, plan), certify_more(one, plan)):
                if found is not None:
                    claim, certificate = found
                    self.assert_accepts(claim, certificate, True)
                    for word in ("never", "can", "ever", "sometime", "unlike", "more"):
                        if word != claim[0] and {word, claim[0]} != {"can", "sometime"}:
                            self.assert_accepts((word,) + claim[1:], certificate, False)


if __name__ == "__main__":
    unittest.main()
