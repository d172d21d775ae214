"""Tests of what decides about all lines: filledrows.machines, filledrows.walks, filledrows.searches."""

import itertools
import random
import unittest

from filledrows.layers import read_layer
from filledrows.lines import SIGN_LETTERS, SIGNS, fits, letters, rows, signs
from filledrows.machines import (DONE, MARKS, START, Machine, PlanMachine, X, Y, kind_machine,
                                 layer_machine, plan_machine)
from filledrows.searches import WalkSearch, shortest
from filledrows.walks import Walks
from tests.samples import (KINDS, LAYERS, LONG_LINES, PLANS, SHORT_LINES, drawn_lines,
                           drawn_programs, of_kind, plain_held, plain_taken)


def accepts(machine, line, x, y):
    """Whether the machine is in DONE behind the line with the marks at x and y."""
    state = START
    for place, sign in enumerate(signs(line)):
        state = machine.moves[state][MARKS * sign + X * (place == x) + Y * (place == y)]
        if state is None:
            return False
    return state == DONE


def pairs(line):
    """All pairs of places of the line."""
    return itertools.product(range(len(signs(line))), repeat=2)


class Signs(unittest.TestCase):

    def test_they_tell_the_letters_and_the_last_places_of_rows(self):
        for line in SHORT_LINES + [line for line, *_ in LONG_LINES]:
            found = signs(line)
            self.assertEqual("".join(SIGN_LETTERS[sign] for sign in found), letters(line))
            last = [place for place, sign in enumerate(found) if sign > 2]
            self.assertEqual(last, [row[1] for row in rows(line)])
            self.assertLessEqual(set(found), set(range(SIGNS)))


class Machines(unittest.TestCase):

    def test_the_machine_of_a_plan_accepts_its_lines_and_nothing_else(self):
        for plan in PLANS:
            machine = plan_machine(plan)
            wanted = {tuple(signs(line)) for line in SHORT_LINES if fits(line, plan)}
            found = set()
            for places in range(1, 6):
                for row in itertools.product(range(SIGNS), repeat=places):
                    state = START
                    for sign in row:
                        state = None if state is None else machine.moves[state][sign]
                    if state is not None and machine.last[state]:
                        found.add(row)
            self.assertEqual(found, wanted)

    def test_the_machine_of_a_kind(self):
        for kind in KINDS:
            machine = kind_machine(kind)
            for line in SHORT_LINES:
                for x, y in pairs(line):
                    self.assertIs(accepts(machine, line, x, y), of_kind(kind, line, x, y))

    def test_the_machine_of_each_layer(self):
        some_lines = [line for line in SHORT_LINES if len(signs(line)) <= 4] + [(5,), (2, -3), (-2, 4)]
        for layer in LAYERS:
            machine = layer_machine(read_layer(layer))
            for line in some_lines:
                taken = plain_taken(layer, line)
                for x, y in pairs(line):
                    self.assertIs(accepts(machine, line, x, y), y in taken[x], (layer, line, x, y))

    def test_the_machines_of_layers_on_longer_lines(self):
        draw = random.Random(1)
        for layer in draw.sample(LAYERS, 150):
            machine = layer_machine(read_layer(layer))
            for line in drawn_lines(draw, 3, 15):
                taken = plain_taken(layer, line)
                for x, y in pairs(line):
                    self.assertIs(accepts(machine, line, x, y), y in taken[x], (layer, line, x, y))


def only_line(line):
    """The machine that lets just this line pass."""
    moves = []
    for place, sign in enumerate(signs(line)):
        moves.append(tuple(place + 1 if sign == other else None for other in range(SIGNS)))
    return PlanMachine(tuple(moves) + ((None,) * SIGNS,), [False] * len(moves) + [True])


def only_marks(line, x, y):
    """The machine that lets just these marks pass."""
    last = len(signs(line))
    # The states in which it is before each place and behind them all.
    order = [START] + [2 + place for place in range(last - 1)] + [DONE]
    moves = [(None,) * MARKS * SIGNS for _ in range(last + 1)]
    for place in range(last):
        mark = X * (place == x) + Y * (place == y)
        moves[order[place]] = tuple(order[place + 1] if symbol % MARKS == mark else None
                                    for symbol in range(MARKS * SIGNS))
    return Machine(tuple(moves), None)


class WalksOnLines(unittest.TestCase):

    def assert_walks(self, layers, rounds, some_lines):
        """Compares the walks from all places to all others with what is held."""
        links = [layer_machine(read_layer(layer)) for layer in reversed(layers)]
        walks = Walks(links, True) if rounds is None else Walks(links * rounds, False)
        for line in some_lines:
            holds = plain_held(layers, line, rounds)
            for x, y in pairs(line):
                if x != y:
                    search = WalkSearch(walks, only_marks(line, x, y), only_line(line))
                    wanted = (line, x, y) if y in holds[x] else None
                    self.assertEqual(shortest(search), wanted, (layers, rounds, line, x, y))

    def test_a_round(self):
        draw = random.Random(2)
        for layers in drawn_programs(draw, 40):
            self.assert_walks(layers, 1, draw.sample(SHORT_LINES, 10) + drawn_lines(draw, 1, 12))

    def test_several_rounds(self):
        draw = random.Random(3)
        for layers in drawn_programs(draw, 40, widest=4):
            self.assert_walks(layers, 2, draw.sample(SHORT_LINES, 10) + drawn_lines(draw, 1, 12))
        for layers in drawn_programs(draw, 20, widest=1):
            self.assert_walks(layers, 6, draw.sample(SHORT_LINES, 10) + drawn_lines(draw, 1, 12))

    def test_any_number_of_rounds(self):
        draw = random.Random(4)
        for layers in drawn_programs(draw, 100, widest=4):
            self.assert_walks(layers, None, draw.sample(SHORT_LINES, 10) + drawn_lines(draw, 1, 12))


if __name__ == "__main__":
    unittest.main()
