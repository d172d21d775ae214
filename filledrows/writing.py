"""Machines written as certificates have them."""

from filledrows.fewest import fewest
from filledrows.graphs import explored
from filledrows.lines import FILLING, FURTHER, LETTERS, SIGNS, sign_of
from filledrows.machines import BOTH, MARKS, START
from filledrows.readers import ARRIVED, MarkedLines


def written_machine(reader, plan, arrives):
    """The machine that accepts the lines of the plan with a walk from x to y, or those without."""
    moves, last = _by_signs(reader, plan, arrives)
    # Letters make more states of each one: so there should be few of them already.
    moves, last = fewest(moves, last)
    moves, last = _by_letters(moves, last)
    moves, last = fewest(moves, last)
    return tuple([row + (is_last,) for row, is_last in zip(moves, last)])


def _by_signs(reader, plan, arrives):
    # The machine that reads the signs of places: its moves, and which of its states accept.
    lines = MarkedLines(plan, BOTH)

    def step(state, symbol):
        at, walk = state
        sign, mark = divmod(symbol, MARKS)
        next_at = lines.step(at, sign, mark)
        if next_at is None:
            return None
        next_walk = reader.step(walk, sign, mark)
        return None if next_walk is None and arrives else (next_at, next_walk)

    moves, states = explored([(lines.start(), reader.start())], step, SIGNS * MARKS)
    return moves, [lines.is_last(at) and (walk == ARRIVED) == arrives for at, walk in states]


def _by_letters(moves, last):
    # The machine that reads letters in the place of signs. Whether a place of a row is its last
    # one is told by the next letter alone: so it waits, and its sign is read with this letter.
    def behind(state, letter):
        before, waiting = state
        if waiting is None:
            return before
        waiting_letter, mark = waiting
        return moves[before][MARKS * sign_of(waiting_letter, letter == FURTHER) + mark]

    def step(state, symbol):
        number, mark = divmod(symbol, MARKS)
        letter = LETTERS[number]
        reached = behind(state, letter)
        if reached is None:
            return None
        if letter != FILLING:
            return reached, (letter, mark)
        reached = moves[reached][MARKS * sign_of(letter, False) + mark]
        return None if reached is None else (reached, None)

    letter_moves, states = explored([(START, None)], step, len(LETTERS) * MARKS)
    ends = [behind(state, None) for state in states]
    return letter_moves, [reached is not None and last[reached] for reached in ends]
