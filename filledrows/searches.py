"""Searches through the lines of a plan for a shortest one."""

from filledrows.graphs import Joined
from filledrows.lines import FILLS, SIGN_LETTERS, SIGNS, read_line
from filledrows.machines import BOTH, DONE, MARKS, NO_MARK, START, X, Y
from filledrows.readers import ARRIVED, MarkedLines


class WalkSearch:
    """Looks for a line of a plan with a walk from a true place x to a place y of a kind for it.

    A state tells where the machines of the plan and of the kind are, behind what is read of the
    line, and of the walk three things: the table of what is read, the crossing by which the walk
    from x goes out of it, and the one by which the walk to y comes into it; None stands for what
    is not there.
    """

    def __init__(self, walks, kind, plan):
        self.walks = walks
        self.kind = kind
        self.plan = plan

    def start(self):
        """The state before the first place."""
        return START, START, self.walks.empty_table(), None, None

    def is_last(self, state):
        """Whether a line that is looked for can end in this state."""
        plan, kind, *walk = state
        return self.plan.last[plan] and kind == DONE and tuple(walk) == ARRIVED

    def is_between(self, state):
        """Whether just one of x and y is read in this state."""
        return self.kind.marked[state[1]] in (X, Y)

    def steps(self, state):
        """The steps over a further place: its sign, its mark and the state behind it."""
        plan, kind, *walk = state
        found = []
        for sign in range(SIGNS):
            next_plan = self.plan.moves[plan][sign]
            # No place is of a kind for itself, so none has both marks.
            for mark in (NO_MARK, X, Y):
                next_kind = self.kind.moves[kind][MARKS * sign + mark]
                if next_plan is not None and next_kind is not None:
                    for next_walk in self._next_walks(walk, sign, mark):
                        found.append((sign, mark, (next_plan, next_kind) + next_walk))
        return found

    def _next_walks(self, walk, sign, mark):
        table, begin, end = walk
        if table is None:
            return [ARRIVED]
        next_table, reached = self.walks.over(table, sign)
        if mark == X:
            begin = self.walks.begin
        if mark == Y:
            end = self.walks.end
        if begin is not None and end is not None and reached[begin] >> end & 1:
            return [ARRIVED]
        outs = [None] if begin is None else self.walks.leaving(reached[begin])
        ins = [None] if end is None else self.walks.entering(reached, end)
        return [(next_table, way_out, way_in) for way_out in outs for way_in in ins]


class DifferenceSearch:
    """Looks for a line of a plan on which just one of two readers tells that a true x holds y.

    A state tells where the machine of the plan and both readers are. Two states of readers in which
    they are at once are joined, since they should tell the same of what comes. Where both are
    joined already no step leads: if they differ in what comes, so do two by which they are joined,
    and these were not reached later.
    """

    def __init__(self, one, other, plan):
        self.one = one
        self.other = other
        self.lines = MarkedLines(plan, BOTH)
        self.joined = Joined()

    def start(self):
        """The state before the first place."""
        return self.lines.start(), self.one.start(), self.other.start()

    def is_last(self, state):
        """Whether a line that is looked for can end in this state."""
        at, one, other = state
        return self.lines.is_last(at) and (one == ARRIVED) != (other == ARRIVED)

    def steps(self, state):
        """The steps over a further place: its sign, its mark and the state behind it."""
        at, one, other = state
        found = []
        for sign, mark, next_at in self.lines.steps(at):
            if mark & X == 0 or sign != FILLS:
                next_one = self.one.step(one, sign, mark)
                next_other = self.other.step(other, sign, mark)
                if self._join(next_at, next_one, next_other):
                    found.append((sign, mark, (next_at, next_one, next_other)))
        return found

    def _join(self, at, one, other):
        # A reader that has stopped is the same for both.
        one = None if one is None else (0, at, one)
        other = None if other is None else (1, at, other)
        return self.joined.tie(one, other)


def shortest(search):
    """A shortest line that is looked for, with its places x and y; None if there is none."""
    states = [search.start()]
    came = {states[0]: None}
    at = 0
    while at < len(states):
        state = states[at]
        if search.is_last(state):
            return _told(came, state)
        for sign, mark, reached in search.steps(state):
            if reached not in came:
                came[reached] = (state, sign, mark)
                states.append(reached)
        at += 1
    return None


def all_states(search):
    """All states of a search, and for each of them the numbers of those to which steps lead."""
    states = [search.start()]
    numbers = {states[0]: 0}
    leads = []
    while len(leads) < len(states):
        reached = []
        for _, _, state in search.steps(states[len(leads)]):
            if state not in numbers:
                numbers[state] = len(states)
                states.append(state)
            reached.append(numbers[state])
        leads.append(reached)
    return states, leads


def _told(came, state):
    # The line over whose places the search came to this state, with its places x and y.
    letters = ""
    marks = []
    while came[state] is not None:
        state, sign, mark = came[state]
        letters = SIGN_LETTERS[sign] + letters
        marks.insert(0, mark)
    return read_line(letters), _place_of(X, marks), _place_of(Y, marks)


def _place_of(mark, marks):
    return [place for place, others in enumerate(marks) if others & mark][0]
