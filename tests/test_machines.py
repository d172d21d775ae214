"""Tests of what decides about all lines, from machines to searches."""

import itertools
import random
import unittest

from filledrows.fewest import fewest
from filledrows.graphs import Joined, living, longest
from filledrows.kinds import kind_sets
from filledrows.layers import read_layer
from filledrows.lines import FILLS, SIGN_LETTERS, SIGNS, fits, letters, rows, sign_of, signs
from filledrows.machines import (BOTH, DONE, MARKS, START, Machine, PlanMachine, X, Y, kind_machine,
                                 layer_machine, plan_machine, turned)
from filledrows.readers import ARRIVED, MarkedLines, WalkReader
from filledrows.searches import WalkSearch, shortest
from filledrows.walks import Walks, links_of
from tests.samples import (KINDS, LAYERS, LONG_LINES, PLANS, SHORT_LINES, drawn_lines,
                           drawn_programs, of_kind, plain_held, plain_taken)


def accepts(machine, line, x, y):
    """Whether the machine is in DONE behind the line with the marks at x and y."""
    state = START
    for place, sign in enumerate(signs(line)):
        state = machine.moves[state][MARKS * sign + X * (place == x) + Y * (place == y)]
        if state is None:
            return False
    return state == DONE


def pairs(line):
    """All pairs of places of the line."""
    return itertools.product(range(len(signs(line))), repeat=2)


class Signs(unittest.TestCase):

    def test_they_tell_the_letters_and_the_last_places_of_rows(self):
        for line in SHORT_LINES + [line for line, *_ in LONG_LINES]:
            found = signs(line)
            self.assertEqual("".join(SIGN_LETTERS[sign] for sign in found), letters(line))
            last = [place for place, sign in enumerate(found) if sign > 2]
            self.assertEqual(last, [row[1] for row in rows(line)])
            self.assertLessEqual(set(found), set(range(SIGNS)))

    def test_the_sign_of_a_letter(self):
        for line in SHORT_LINES:
            word, found = letters(line), signs(line)
            for place, letter in enumerate(word):
                goes_on = word[place + 1:place + 2] == "o"
                self.assertEqual(sign_of(letter, goes_on), found[place])

    def test_the_sets_of_a_kind(self):
        for line in SHORT_LINES + [line for line, *_ in LONG_LINES]:
            for kind in KINDS:
                wanted = [sum(1 << y for y in range(len(signs(line))) if of_kind(kind, line, x, y))
                          for x in range(len(signs(line)))]
                self.assertEqual(kind_sets(kind, line), wanted, (kind, line))


class Machines(unittest.TestCase):

    def test_the_machine_of_a_plan_accepts_its_lines_and_nothing_else(self):
        for plan in PLANS:
            machine = plan_machine(plan)
            wanted = {tuple(signs(line)) for line in SHORT_LINES if fits(line, plan)}
            found = set()
            for places in range(1, 6):
                for row in itertools.product(range(SIGNS), repeat=places):
                    state = START
                    for sign in row:
                        state = None if state is None else machine.moves[state][sign]
                    if state is not None and machine.last[state]:
                        found.add(row)
            self.assertEqual(found, wanted)

    def test_the_machine_of_a_kind(self):
        for kind in KINDS:
            machine = kind_machine(kind)
            for line in SHORT_LINES:
                for x, y in pairs(line):
                    self.assertIs(accepts(machine, line, x, y), of_kind(kind, line, x, y))

    def test_the_machine_of_each_layer(self):
        some_lines = [line for line in SHORT_LINES if len(signs(line)) <= 4] + [(5,), (2, -3), (-2, 4)]
        for layer in LAYERS:
            machine = layer_machine(read_layer(layer))
            for line in some_lines:
                taken = plain_taken(layer, line)
                for x, y in pairs(line):
                    self.assertIs(accepts(machine, line, x, y), y in taken[x], (layer, line, x, y))

    def test_the_machines_of_layers_on_longer_lines(self):
        draw = random.Random(1)
        for layer in draw.sample(LAYERS, 150):
            machine = layer_machine(read_layer(layer))
            for line in drawn_lines(draw, 3, 15):
                taken = plain_taken(layer, line)
                for x, y in pairs(line):
                    self.assertIs(accepts(machine, line, x, y), y in taken[x], (layer, line, x, y))


    def test_a_turned_machine(self):
        for layer in LAYERS[::7]:
            machine = layer_machine(read_layer(layer))
            for line in SHORT_LINES[:40]:
                for x, y in pairs(line):
                    self.assertIs(accepts(turned(machine), line, x, y), accepts(machine, line, y, x))
            self.assertEqual(turned(turned(machine)).moves, machine.moves)
            self.assertEqual(turned(turned(machine)).marked, machine.marked)


class Graphs(unittest.TestCase):

    def drawn(self, draw):
        """For each of some states those to which it leads."""
        many = draw.randint(1, 7)
        return [draw.sample(range(many), draw.randint(0, min(2, many))) for _ in range(many)]

    def ways(self, leads, state, chosen, most):
        """All ways over chosen states, from this one on, of up to so many states."""
        if chosen[state] and most:
            yield (state,)
            for further in leads[state]:
                for way in self.ways(leads, further, chosen, most - 1):
                    yield (state,) + way

    def test_what_is_living(self):
        draw = random.Random(5)
        for _ in range(300):
            leads = self.drawn(draw)
            last = [draw.random() < 0.2 for _ in leads]
            every = [True] * len(leads)
            wanted = [any(last[way[-1]] for way in self.ways(leads, state, every, len(leads)))
                      for state in range(len(leads))]
            self.assertEqual(living(leads, last), wanted)

    def test_the_longest_way(self):
        draw = random.Random(6)
        endless = 0
        for _ in range(300):
            leads = self.drawn(draw)
            chosen = [draw.random() < 0.7 for _ in leads]
            lengths = [len(way) for state in range(len(leads))
                       for way in self.ways(leads, state, chosen, len(leads) + 1)]
            wanted = max(lengths, default=0)
            endless += wanted > len(leads)
            self.assertEqual(longest(leads, chosen), None if wanted > len(leads) else wanted)
        self.assertGreater(endless, 20)

    def test_things_that_are_joined(self):
        draw = random.Random(7)
        for _ in range(100):
            joined, parts = Joined(), {thing: {thing} for thing in range(12)}
            for _ in range(30):
                one, other = draw.randrange(12), draw.randrange(12)
                self.assertIs(joined.tie(one, other), other not in parts[one])
                both = parts[one] | parts[other]
                parts.update({thing: both for thing in both})


class Fewest(unittest.TestCase):

    def accepted(self, moves, last, state):
        """All words of up to six symbols that are accepted from this state on."""
        found = set()
        for many in range(7):
            for word in itertools.product(range(len(moves[0])), repeat=many):
                reached = state
                for symbol in word:
                    reached = None if reached is None else moves[reached][symbol]
                if reached is not None and last[reached]:
                    found.add(word)
        return frozenset(found)

    def reached(self, moves):
        """All states that are reached from the first one."""
        found = [0]
        for state in found:
            found += {further for further in moves[state] if further is not None}.difference(found)
        return found

    def test_drawn_machines(self):
        draw = random.Random(8)
        for _ in range(300):
            many, symbols = draw.randint(1, 6), draw.randint(1, 2)
            moves = [tuple(draw.choice((None, draw.randrange(many), draw.randrange(many)))
                           for _ in range(symbols)) for _ in range(many)]
            last = [draw.random() < 0.4 for _ in moves]
            fewer, ends = fewest(moves, last)
            self.assertEqual(len(fewer), len(ends))
            self.assertEqual(self.accepted(fewer, ends, 0), self.accepted(moves, last, 0))
            # Each state that is needed has another set of words, which is not empty.
            needed = {self.accepted(moves, last, state) for state in self.reached(moves)} - {frozenset()}
            self.assertEqual(len(fewer), max(1, len(needed)))

    def test_known_machines(self):
        # It counts up to six, and accepts at two and at five: so up to three does, too.
        moves = [((count + 1) % 6,) for count in range(6)]
        last = [count % 3 == 2 for count in range(6)]
        self.assertEqual(fewest(moves, last), (((1,), (2,), (0,)), [False, False, True]))
        self.assertEqual(fewest(moves, [False] * 6), (((None,),), [False]))
        self.assertEqual(fewest(moves, [True] * 6), (((0,),), [True]))
        # What is not reached, and from where nothing is accepted.
        moves = [(1, 2), (None, 1), (2, 2), (0, 1)]
        self.assertEqual(fewest(moves, [False, True, False, True]),
                         (((1, None), (None, 1)), [False, True]))

    def test_a_long_chain(self):
        moves = [(min(count + 1, 4999),) for count in range(5000)]
        last = [count == 4999 for count in range(5000)]
        self.assertEqual(len(fewest(moves, last)[0]), 5000)


def only_line(line):
    """The machine that lets just this line pass."""
    moves = []
    for place, sign in enumerate(signs(line)):
        moves.append(tuple(place + 1 if sign == other else None for other in range(SIGNS)))
    return PlanMachine(tuple(moves) + ((None,) * SIGNS,), [False] * len(moves) + [True])


def only_marks(line, x, y):
    """The machine that lets just these marks pass."""
    last = len(signs(line))
    # The states in which it is before each place and behind them all.
    order = [START] + [2 + place for place in range(last - 1)] + [DONE]
    moves = [(None,) * MARKS * SIGNS for _ in range(last + 1)]
    for place in range(last):
        mark = X * (place == x) + Y * (place == y)
        moves[order[place]] = tuple(order[place + 1] if symbol % MARKS == mark else None
                                    for symbol in range(MARKS * SIGNS))
    return Machine(tuple(moves), None)


class ReadersOnLines(unittest.TestCase):

    def test_the_lines_of_a_plan_with_their_marks(self):
        for plan in PLANS:
            lines = MarkedLines(plan, BOTH)
            for line in SHORT_LINES:
                for x, y in pairs(line):
                    state = lines.start()
                    for place, sign in enumerate(signs(line)):
                        mark = X * (place == x) + Y * (place == y)
                        step = None if state is None else lines.step(state, sign, mark)
                        if state is not None:
                            self.assertEqual((sign, mark, step) in lines.steps(state), step is not None)
                        state = step
                    found = state is not None and lines.is_last(state)
                    self.assertIs(found, fits(line, plan), (plan, line))

    def test_marks_are_read_once(self):
        lines = MarkedLines("any", BOTH)
        state = lines.step(lines.start(), FILLS, X)
        self.assertFalse(lines.is_last(state))
        self.assertIsNone(lines.step(state, FILLS, X))
        self.assertIsNone(lines.step(state, FILLS, BOTH))
        self.assertTrue(lines.is_last(lines.step(state, FILLS, Y)))

    def assert_reads(self, walks, begin, holds, line):
        """Compares what is read of all pairs of places with what is held."""
        reader = WalkReader(walks, begin)
        for x, y in pairs(line):
            state = reader.start()
            for place, sign in enumerate(signs(line)):
                state = reader.step(state, sign, X * (place == x) + Y * (place == y))
            self.assertIs(state == ARRIVED, y in holds[x], (line, x, y))

    def test_rounds(self):
        draw = random.Random(9)
        for layers in drawn_programs(draw, 60):
            walks = Walks(links_of([read_layer(layer) for layer in layers]), False)
            for line in draw.sample(SHORT_LINES, 10) + drawn_lines(draw, 1, 12):
                self.assert_reads(walks, 0, plain_held(layers, line, 1), line)

    def test_any_number_of_rounds_and_some_layers(self):
        draw = random.Random(10)
        for layers in drawn_programs(draw, 60, widest=4):
            walks = Walks(links_of([read_layer(layer) for layer in layers]), True)
            for line in draw.sample(SHORT_LINES, 5) + drawn_lines(draw, 1, 10):
                holds = plain_held(layers, line, None)
                holds = [places | {place} for place, places in enumerate(holds)]
                for many in range(len(layers)):
                    self.assert_reads(walks, (len(layers) - many) % len(layers), holds, line)
                    taken = plain_taken(layers[many], line)
                    holds = [set().union(*[holds[z] for z in places]) for places in taken]


class WalksOnLines(unittest.TestCase):

    def assert_walks(self, layers, rounds, some_lines):
        """Compares the walks from all places to all others with what is held."""
        links = [layer_machine(read_layer(layer)) for layer in reversed(layers)]
        walks = Walks(links, True) if rounds is None else Walks(links * rounds, False)
        for line in some_lines:
            holds = plain_held(layers, line, rounds)
            for x, y in pairs(line):
                if x != y:
                    search = WalkSearch(walks, only_marks(line, x, y), only_line(line))
                    wanted = (line, x, y) if y in holds[x] else None
                    self.assertEqual(shortest(search), wanted, (layers, rounds, line, x, y))

    def test_a_round(self):
        draw = random.Random(2)
        for layers in drawn_programs(draw, 40):
            self.assert_walks(layers, 1, draw.sample(SHORT_LINES, 10) + drawn_lines(draw, 1, 12))

    def test_several_rounds(self):
        draw = random.Random(3)
        for layers in drawn_programs(draw, 40, widest=4):
            self.assert_walks(layers, 2, draw.sample(SHORT_LINES, 10) + drawn_lines(draw, 1, 12))
        for layers in drawn_programs(draw, 20, widest=1):
            self.assert_walks(layers, 6, draw.sample(SHORT_LINES, 10) + drawn_lines(draw, 1, 12))

    def test_any_number_of_rounds(self):
        draw = random.Random(4)
        for layers in drawn_programs(draw, 100, widest=4):
            self.assert_walks(layers, None, draw.sample(SHORT_LINES, 10) + drawn_lines(draw, 1, 12))


if __name__ == "__main__":
    unittest.main()
