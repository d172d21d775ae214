"""Machines with as few states as possible.

Within this file a machine is told by its moves, for each state a row of states or None, and by
truth values that tell which states accept. It begins in state 0.
"""

from filledrows.graphs import explored, living


class Partition:
    """Numbers from 0 on in parts, which are divided further and further.

    Parts wait until others are divided by what leads to them. What is divided by what leads to a
    part, and by what leads to one half of it, is divided by what leads to the other half, too: so
    of the halves of a part that does not wait any more just the smaller one waits.
    """

    def __init__(self, many):
        self.part_of = [0] * many
        self.parts = [{number: True for number in range(many)}]
        self.waits = [True]
        self.waiting = [0]

    def next_part(self):
        """The members of a part that waits, and then waits no more; None if no part waits."""
        if not self.waiting:
            return None
        part = self.waiting.pop()
        self.waits[part] = False
        return list(self.parts[part])

    def divide(self, chosen):
        """Divides each part in the numbers that are chosen and those that are not."""
        found = {}
        for number in chosen:
            found.setdefault(self.part_of[number], []).append(number)
        for part, inside in found.items():
            if len(inside) < len(self.parts[part]):
                self._cut(part, inside)

    def _cut(self, part, inside):
        fresh = len(self.parts)
        for number in inside:
            del self.parts[part][number]
            self.part_of[number] = fresh
        self.parts.append({number: True for number in inside})
        self.waits.append(False)
        smaller = self.waits[part] or len(inside) <= len(self.parts[part])
        self._wait(fresh if smaller else part)

    def _wait(self, part):
        self.waits[part] = True
        self.waiting.append(part)


def fewest(moves, last):
    """The machine with the fewest states that accepts the same, as its moves and what accepts."""
    alive = living([[reached for reached in row if reached is not None] for row in moves], last)
    # No move leads to where nothing is accepted any more.
    kept = [[reached if reached is not None and alive[reached] else None for reached in row]
            for row in moves]
    part_of = _parts(kept, last)
    chosen = {}
    for state, part in enumerate(part_of):
        chosen.setdefault(part, state)

    def step(part, symbol):
        reached = kept[chosen[part]][symbol]
        return None if reached is None else part_of[reached]

    fewer_moves, parts = explored([part_of[0]], step, len(moves[0]))
    return fewer_moves, [last[chosen[part]] for part in parts]


def _parts(moves, last):
    # For each state a number, the same for those behind which the same is accepted.
    partition = Partition(len(moves))
    partition.divide([state for state, is_last in enumerate(last) if is_last])
    before = [_before(moves, symbol) for symbol in range(len(moves[0]))]
    members = partition.next_part()
    while members is not None:
        for states in before:
            partition.divide([earlier for state in members for earlier in states[state]])
        members = partition.next_part()
    return partition.part_of


def _before(moves, symbol):
    # For each state those from which this symbol leads to it.
    found = [[] for _ in moves]
    for state, row in enumerate(moves):
        if row[symbol] is not None:
            found[row[symbol]].append(state)
    return found
