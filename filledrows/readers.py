"""Readers: they read a line with marks once, and of what is read just one state is kept."""

from filledrows.lines import SIGNS
from filledrows.machines import NO_MARK, START, X, Y, plan_machine

# What is left of a walk that has come from x to y.
ARRIVED = (None, None, None)


class MarkedLines:
    """Reads the lines of a plan with some marks, each at one place, perhaps several at the same.

    A state tells where the machine of the plan is, and which marks are read, as a number.
    """

    def __init__(self, plan, marks):
        self.machine = plan_machine(plan)
        self.marks = marks
        self.known = {}

    def start(self):
        """The state before the first place."""
        return START, NO_MARK

    def is_last(self, state):
        """Whether a line of the plan, with all marks, can end in this state."""
        at, read = state
        return self.machine.last[at] and read == self.marks

    def step(self, state, sign, mark):
        """The state behind a further place with this sign and these marks; None if there is none."""
        at, read = state
        reached = self.machine.moves[at][sign]
        if reached is None or read & mark:
            return None
        return reached, read | mark

    def steps(self, state):
        """The steps over a further place: its sign, its marks and the state behind it."""
        if state not in self.known:
            found = []
            for sign in range(SIGNS):
                for mark in range(self.marks + 1):
                    reached = self.step(state, sign, mark)
                    if reached is not None:
                        found.append((sign, mark, reached))
            self.known[state] = found
        return self.known[state]


class WalkReader:
    """Tells whether a walk leads from x to y.

    A state tells three things: the table of what is read, the set of the crossings by which walks
    from x go out of it, and the set of those by which walks to y come into it; None stands for a
    set while its mark is not read.
    """

    def __init__(self, walks, begin=0):
        self.walks = walks
        self.begin = begin

    def start(self):
        """The state before the first place."""
        return self.walks.empty_table(), None, None

    def step(self, state, sign, mark):
        """The state behind a further place; None if no walk can lead from x to y any more."""
        if state is None or state == ARRIVED:
            return state
        table, outs, ins = state
        walks = self.walks
        next_table, reached = walks.over(table, sign)
        gone = _all_reached(reached, outs, walks.in_ahead)
        if mark & X:
            gone = reached[self.begin]
        aims = None if ins is None else ins << walks.out_back
        if mark & Y:
            aims = 1 << walks.end
        if gone is not None and aims is not None and gone & aims:
            return ARRIVED
        next_outs = None if gone is None else gone >> walks.out_ahead
        next_ins = None if aims is None else _all_coming(reached[walks.in_back:], aims)
        # The other mark stands ahead, or the walk goes on ahead and comes back.
        if next_outs == 0 or next_ins == 0:
            return None
        return next_table, next_outs, next_ins


def _all_reached(reached, outs, first):
    # What is reached from any of these crossings, the first of which has this number.
    if outs is None:
        return None
    found = 0
    while outs:
        if outs & 1:
            found = found | reached[first]
        outs = outs >> 1
        first += 1
    return found


def _all_coming(reached, aims):
    # The set of those of these crossings from which one of the aims is reached.
    return sum([1 << number for number, numbers in enumerate(reached) if numbers & aims])
