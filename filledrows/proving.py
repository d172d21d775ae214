"""Whether machines of certificates are right: all lines are read at once, with their marks."""

from filledrows.fewest import fewest
from filledrows.lines import LETTERS, SIGNS, SIGN_LETTERS, is_integer
from filledrows.machines import (BOTH, DONE, MARKS, NO_MARK, START, X, Y, kind_machine,
                                 layer_machine)
from filledrows.readers import MarkedLines

# With more states than this either answer may be given.
MOST_STATES = 5000

# How many indexes of states a state has, before its truth value.
MOVES = 12

# The third mark, and the number of all three together.
Z = 4
ALL_THREE = 7


class Relation:
    """Which places x and y of lines are in a relation, told by a machine.

    It reads the signs of places with both marks, from START on; `last` tells for each state
    whether it accepts. With as few states as possible, fewer are reached together with others, and
    none is in which it is sure that nothing is accepted.
    """

    def __init__(self, moves, last):
        self.moves = moves
        self.last = last


class Part:
    """A relation that is asked of two of three marks, in this order."""

    def __init__(self, relation, one, other):
        self.relation = relation
        self.marks = [_only(X, marks & one) + _only(Y, marks & other) for marks in range(ALL_THREE + 1)]

    def step(self, state, sign, marks):
        """The state behind a further place; None if nothing is accepted behind it."""
        if state is None:
            return None
        return self.relation.moves[state][MARKS * sign + self.marks[marks]]

    def is_last(self, state):
        """Whether it accepts in this state."""
        return state is not None and self.relation.last[state]


def read_relation(value):
    """The relation that a machine of a certificate tells; None if the value is no such machine."""
    if not isinstance(value, tuple) or not 1 <= len(value) <= MOST_STATES:
        return None
    if not all([_is_state(state, len(value)) for state in value]):
        return None
    moves, last = fewest([state[:MOVES] for state in value], [state[MOVES] for state in value])
    return Relation([_by_signs(row) for row in moves], last)


def proves_never(relations, layers, kind, plan):
    """Whether these relations are right for what is held behind one round."""
    return _leads_on([_equal(), *relations], layers, plan) and _has_none(relations[-1], kind, plan)


def proves_ever(relations, layers, kind, plan):
    """Whether these relations are right for what is held behind any number of rounds."""
    if not _has_none(relations[0], kind, plan):
        return False
    first = Part(relations[0], X, Y)
    for relation in (_equal(), relations[-1]):
        if not _follows([Part(relation, X, Y)], first, plan, BOTH):
            return False
    return _leads_on(relations, layers, plan)


def _only(mark, marks):
    return mark if marks else NO_MARK


def _is_state(value, many):
    if not isinstance(value, tuple) or len(value) != MOVES + 1:
        return False
    moves = value[:MOVES]
    return all([_is_move(move, many) for move in moves]) and isinstance(value[MOVES], bool)


def _is_move(value, many):
    return value is None or is_integer(value) and 0 <= value < many


def _by_signs(row):
    # These moves of a state for each sign, in the place of those for each letter.
    found = []
    for letter in SIGN_LETTERS:
        first = MARKS * LETTERS.index(letter)
        found.extend(row[first:first + MARKS])
    return found


def _equal():
    # The relation in which each place is with itself alone.
    return Relation([[0, None, None, 1] * SIGNS, [1, None, None, None] * SIGNS], [False, True])


def _nothing():
    return Relation([[None] * MARKS * SIGNS], [False])


def _asked(machine):
    moves, last = fewest(machine.moves, [state == DONE for state in range(len(machine.moves))])
    return Relation(moves, last)


def _leads_on(relations, layers, plan):
    # Whether each relation has all that is taken in its layer of what the one before it has.
    for layer, before, behind in zip(layers, relations, relations[1:]):
        premises = [Part(_asked(layer_machine(layer)), X, Z), Part(before, Z, Y)]
        if not _follows(premises, Part(behind, X, Y), plan, ALL_THREE):
            return False
    return True


def _has_none(relation, kind, plan):
    # Whether it has no true place x with a place y that is of the kind for it.
    premises = [Part(_asked(kind_machine(kind)), X, Y), Part(relation, X, Y)]
    return _follows(premises, Part(_nothing(), X, Y), plan, BOTH)


def _follows(premises, conclusion, plan, marks):
    # Whether on all lines of the plan, wherever these marks stand, the conclusion accepts if all
    # premises do.
    lines = MarkedLines(plan, marks)
    states = [(lines.start(), (START,) * len(premises), START)]
    known = {states[0]: True}
    while states:
        at, reached, concluded = states.pop()
        if lines.is_last(at) and _all_last(premises, reached) and not conclusion.is_last(concluded):
            return False
        for sign, mark, next_at in lines.steps(at):
            next_reached = _all_steps(premises, reached, sign, mark)
            if next_reached is not None:
                state = (next_at, next_reached, conclusion.step(concluded, sign, mark))
                if state not in known:
                    known[state] = True
                    states.append(state)
    return True


def _all_last(parts, states):
    return all([part.is_last(state) for part, state in zip(parts, states)])


def _all_steps(parts, states, sign, marks):
    # The states of all parts behind a further place; None if one of them accepts nothing then.
    found = []
    for part, state in zip(parts, states):
        reached = part.step(state, sign, marks)
        if reached is None:
            return None
        found.append(reached)
    return tuple(found)
