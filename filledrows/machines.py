"""Machines that read a line once, place by place, by the signs of its places.

Most of them read two marks as well, x and y, at places of the line. Such a machine begins in
START. For each place it goes to the state that stands in `moves`, in the row of its state, at
MARKS * SIGN + MARK, and stops, where None stands there. Behind the line it is in DONE if both
marks are read and what it asks of them is so.
"""

from filledrows.graphs import explored
from filledrows.layers import ROW
from filledrows.lines import CLOSES, FILLS, GOES_ON, OPENS, SIGNS

# The marks of a place, which can have both.
NO_MARK = 0
X = 1
Y = 2
BOTH = 3
MARKS = 4

START = 0
DONE = 1

# For each state of a plan: where the beginning of a row leads, and where a filling place.
PLAN_ROWS = {
    "behind": (1, None, None),
    "front": (1, None),
    "joined": (1, 1),
    "packed": (1, 1, None),
    "any": (0,),
}
PLAN_FILLINGS = {
    "behind": (None, 2, 2),
    "front": (0, None),
    "joined": (None, None),
    "packed": (None, 2, 2),
    "any": (0,),
}
PLAN_ENDS = {"behind": (1, 2), "front": (1,), "joined": (1,), "packed": (1, 2), "any": (0,)}


class Machine:
    """The machine with these moves; `marked` tells for each state which marks are read in it."""

    def __init__(self, moves, marked):
        self.moves = moves
        self.marked = marked


class PlanMachine:
    """A machine that reads no marks; `last` tells for each state whether a line may end in it."""

    def __init__(self, moves, last):
        self.moves = moves
        self.last = last


def layer_machine(layer):
    """The machine that asks whether x takes from y in this layer."""
    span = layer.span

    def same(sign):
        return layer.keeps(sign)

    def fits(sign, mark):
        return layer.asks(sign) if mark == X else layer.sees(sign)

    def begin(sign, mark):
        leads = span.ahead if mark == X else span.back
        if not leads or span.distances == () or not fits(sign, mark):
            return None
        return None if layer.scope == ROW and not _goes_on(sign) else 0

    def go(gone, sign):
        if layer.scope == ROW and not _goes_on(sign):
            return None
        return _counted(span, gone + 1)

    def end(gone, sign, mark):
        return fits(sign, mark) and span.reaches(gone + 1)

    return _marks_machine(same, begin, go, end)


def kind_machine(kind):
    """The machine that asks whether x is a true place and y of this kind for it."""
    near = kind in ("later", "earlier")

    def same(_):
        return False

    def fits(sign, mark):
        fills = sign == FILLS
        if mark == X:
            return not fills
        return kind == "strange" or fills == (kind == "filling")

    def begin(sign, mark):
        if kind == "later" and mark == Y or kind == "earlier" and mark == X:
            return None
        return _goes_on(sign) if fits(sign, mark) else None

    def go(in_row, sign):
        return in_row and _goes_on(sign)

    def end(in_row, sign, mark):
        return fits(sign, mark) and in_row == near

    return _marks_machine(same, begin, go, end)


def plan_machine(plan):
    """The machine that asks whether a line is one of the plan."""
    def step(state, sign):
        at, in_row = state
        if in_row:
            return (at, _goes_on(sign)) if sign in (GOES_ON, CLOSES) else None
        if sign in (GOES_ON, CLOSES):
            return None
        at = PLAN_FILLINGS[plan][at] if sign == FILLS else PLAN_ROWS[plan][at]
        return None if at is None else (at, _goes_on(sign))

    moves, states = explored([(0, False)], step, SIGNS)
    last = [reached in PLAN_ENDS[plan] and not goes_on for reached, goes_on in states]
    return PlanMachine(moves, last)


def turned(machine):
    """The machine with marks that asks of y and x what this one asks of x and y."""
    moves = []
    for row in machine.moves:
        turned_row = []
        for sign in range(SIGNS):
            no_mark, x, y, both = row[MARKS * sign:MARKS * (sign + 1)]
            turned_row.extend([no_mark, y, x, both])
        moves.append(tuple(turned_row))
    marks = {NO_MARK: NO_MARK, X: Y, Y: X, BOTH: BOTH}
    return Machine(tuple(moves), [marks[read] for read in machine.marked])


def _goes_on(sign):
    # Whether the row of a place with this sign goes on behind it.
    return sign in (OPENS, GOES_ON)


def _counted(span, gone):
    # What is remembered of the distance from the first mark; None if the span ends here.
    if span.distances is None:
        return gone % span.every
    return gone if gone < span.distances[-1] else None


def _marks_machine(same, begin, go, end):
    # If both marks stand at one place, the machine asks `same`. Otherwise it remembers what `begin`
    # tells at the first one, then what `go` makes of it at each further place, and at the other
    # mark it asks `end`.
    def step(state, symbol):
        read, memory = state
        sign, mark = divmod(symbol, MARKS)
        if read & mark:
            return None
        if mark == NO_MARK and read in (NO_MARK, BOTH):
            return state
        if mark == BOTH:
            return (BOTH, None) if same(sign) else None
        if read == NO_MARK:
            return _remembering(mark, begin(sign, mark))
        if mark == NO_MARK:
            return _remembering(read, go(memory, sign))
        return (BOTH, None) if end(memory, sign, mark) else None

    moves, states = explored([(NO_MARK, None), (BOTH, None)], step, SIGNS * MARKS)
    return Machine(moves, [read for read, _ in states])


def _remembering(read, memory):
    return None if memory is None else (read, memory)
