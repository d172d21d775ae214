"""Graphs of states, which are numbered: for each state it is told to which ones it leads."""


class Joined:
    """Things that are joined, each also with all with which the other one is joined."""

    def __init__(self):
        self.next_of = {}

    def tie(self, one, other):
        """Joins two things; whether they were not joined before."""
        one = self._end(one)
        other = self._end(other)
        if one == other:
            return False
        self.next_of[one] = other
        return True

    def _end(self, thing):
        # The thing to which all lead that are joined with this one.
        passed = []
        while thing in self.next_of:
            passed.append(thing)
            thing = self.next_of[thing]
        # What was passed leads there at once from now on, lest the ways grow long.
        for earlier in passed:
            self.next_of[earlier] = thing
        return thing


def explored(first, step, symbols):
    """The moves of all states that are reached from the first ones, and all states, in one order."""
    states = list(first)
    numbers = {state: number for number, state in enumerate(states)}
    moves = []
    while len(moves) < len(states):
        row = []
        for symbol in range(symbols):
            reached = step(states[len(moves)], symbol)
            if reached is not None and reached not in numbers:
                numbers[reached] = len(states)
                states.append(reached)
            row.append(numbers.get(reached))
        moves.append(tuple(row))
    return tuple(moves), states


def living(leads, last):
    """For each state whether one of those that are last is reached from it, or is this one."""
    before = [[] for _ in leads]
    for state, reached in enumerate(leads):
        for further in reached:
            before[further].append(state)
    alive = list(last)
    left = [state for state, is_last in enumerate(last) if is_last]
    while left:
        state = left.pop()
        for earlier in before[state]:
            if not alive[earlier]:
                alive[earlier] = True
                left.append(earlier)
    return alive


def longest(leads, chosen):
    """The most states of a way over chosen states alone; None if there is no most."""
    coming = [0] * len(leads)
    for state, reached in enumerate(leads):
        for further in reached:
            if chosen[state]:
                coming[further] += 1
    # A state is looked at when all those that lead to it are; so none is that lies on a circle.
    ready = [state for state in range(len(leads)) if chosen[state] and coming[state] == 0]
    lengths = [1] * len(leads)
    done = []
    while ready:
        state = ready.pop()
        done.append(lengths[state])
        for further in leads[state]:
            lengths[further] = max(lengths[further], lengths[state] + 1)
            coming[further] -= 1
            if chosen[further] and coming[further] == 0:
                ready.append(further)
    if len(done) < sum([1 for is_chosen in chosen if is_chosen]):
        return None
    return max(done, default=0)
