"""Searches through the lines of a plan for a shortest one."""

from filledrows.lines import SIGN_LETTERS, SIGNS, read_line
from filledrows.machines import DONE, MARKS, NO_MARK, START, X, Y

# What is left of a walk that has come from x to y.
ARRIVED = (None, None, None)


class WalkSearch:
    """Looks for a line of a plan with a walk from a true place x to a place y of a kind for it.

    A state tells where the machines of the plan and of the kind are, behind what is read of the
    line, and of the walk three things: the table of what is read, the crossing by which the walk
    from x goes out of it, and the one by which the walk to y comes into it; None stands for what
    is not there.
    """

    def __init__(self, walks, kind, plan):
        self.walks = walks
        self.kind = kind
        self.plan = plan

    def start(self):
        """The state before the first place."""
        return START, START, self.walks.empty_table(), None, None

    def is_last(self, state):
        """Whether a line that is looked for can end in this state."""
        plan, kind, *walk = state
        return self.plan.last[plan] and kind == DONE and tuple(walk) == ARRIVED

    def steps(self, state):
        """The steps over a further place: its sign, its mark and the state behind it."""
        plan, kind, *walk = state
        found = []
        for sign in range(SIGNS):
            next_plan = self.plan.moves[plan][sign]
            # No place is of a kind for itself, so none has both marks.
            for mark in (NO_MARK, X, Y):
                next_kind = self.kind.moves[kind][MARKS * sign + mark]
                if next_plan is not None and next_kind is not None:
                    for next_walk in self._next_walks(walk, sign, mark):
                        found.append((sign, mark, (next_plan, next_kind) + next_walk))
        return found

    def _next_walks(self, walk, sign, mark):
        table, begin, end = walk
        if table is None:
            return [ARRIVED]
        next_table, reached = self.walks.over(table, sign)
        if mark == X:
            begin = self.walks.begin
        if mark == Y:
            end = self.walks.end
        if begin is not None and end is not None and reached[begin] >> end & 1:
            return [ARRIVED]
        outs = [None] if begin is None else self.walks.leaving(reached[begin])
        ins = [None] if end is None else self.walks.entering(reached, end)
        return [(next_table, way_out, way_in) for way_out in outs for way_in in ins]


def shortest(search):
    """A shortest line that is looked for, with its places x and y; None if there is none."""
    states = [search.start()]
    came = {states[0]: None}
    at = 0
    while at < len(states):
        state = states[at]
        if search.is_last(state):
            return _told(came, state)
        for sign, mark, reached in search.steps(state):
            if reached not in came:
                came[reached] = (state, sign, mark)
                states.append(reached)
        at += 1
    return None


def _told(came, state):
    # The line over whose places the search came to this state, with its places x and y.
    letters = ""
    marks = []
    while came[state] is not None:
        state, sign, mark = came[state]
        letters = SIGN_LETTERS[sign] + letters
        marks.insert(0, mark)
    return read_line(letters), marks.index(X), marks.index(Y)
