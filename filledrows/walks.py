"""Walks on a line, from a place x to a place y that it holds.

A walk leads from x to a place from which it takes in the last layer, from there to one from which
this one takes in the layer before, and so on; each such step is a link, read by a machine. So x
holds y if a walk over all links leads from x to y.

A line is read once, place by place. A walk passes the gap between two places in crossings: by a
link that leads ahead over it or back over it, in a state of the machine of this link. A table
tells of what is read of a line: for each crossing that leads back into it, to which crossings that
lead ahead out of it a walk goes on from there, without leaving it before.
"""

from filledrows.bits import members
from filledrows.lines import SIGNS
from filledrows.machines import BOTH, DONE, MARKS, NO_MARK, START, X, Y, layer_machine


class Walks:
    """The walks over these links, or, if `again`, over all of them again and again.

    At each place numbers stand for what a walk can come by there: the stops, stop k with k links
    behind it, then `in_ahead` and `out_back`, the crossings of the gap before this place, then
    `in_back` and `out_ahead`, those of the gap behind it. A set of these is a number, too, in
    which each of them has a bit.
    """

    def __init__(self, links, again):
        self.links = links
        self.ahead = _crossings(links, X)
        self.back = _crossings(links, Y)
        self.stops = len(links) if again else len(links) + 1
        self.begin = 0
        self.end = len(links) % self.stops
        self.in_ahead = self.stops
        self.out_back = self.in_ahead + len(self.ahead)
        self.in_back = self.out_back + len(self.back)
        self.out_ahead = self.in_back + len(self.back)
        self.next_sets = [self._next_sets(sign) for sign in range(SIGNS)]
        self.known = {}

    def empty_table(self):
        """The table before the first place, where no walk turns."""
        return (0,) * len(self.back)

    def over(self, table, sign):
        """The table behind a further place with this sign, and for each number what it reaches."""
        if (table, sign) not in self.known:
            next_sets = list(self.next_sets[sign])
            for number, crossings in enumerate(table):
                next_sets[self.out_back + number] = crossings << self.in_ahead
            reached = [_reached(next_sets, number) for number in range(self.out_ahead)]
            turned = [numbers >> self.out_ahead for numbers in reached[self.in_back:]]
            self.known[table, sign] = (tuple(turned), reached)
        return self.known[table, sign]

    def leaving(self, numbers):
        """The crossings ahead among these numbers, as they come in at the next place."""
        return [self.in_ahead + number for number in members(numbers >> self.out_ahead)]

    def entering(self, reached, end):
        """The crossings back that reach the end, as they go out at the next place."""
        coming = range(len(self.back))
        return [self.out_back + k for k in coming if reached[self.in_back + k] >> end & 1]

    def _next_sets(self, sign):
        # For each number at a place with this sign those to which a walk goes on at once.
        found = [0] * (self.out_ahead + len(self.ahead))
        for index in range(len(self.links)):
            self._add_beginning(found, sign, index)
        for index, state in self.ahead:
            self._add_ahead(found, sign, index, state)
        for index, state in self.back:
            self._add_back(found, sign, index, state)
        return found

    def _add_beginning(self, found, sign, index):
        # A link is read from its left end on: this is y, where it leads back.
        moves = self.links[index].moves[START]
        at = MARKS * sign
        if moves[at + BOTH] == DONE:
            _add(found, index, self._landing(index))
        if moves[at + X] is not None:
            _add(found, index, self.out_ahead + self.ahead[index, moves[at + X]])
        if moves[at + Y] is not None:
            _add(found, self.in_back + self.back[index, moves[at + Y]], self._landing(index))

    def _add_ahead(self, found, sign, index, state):
        moves = self.links[index].moves[state]
        number = self.in_ahead + self.ahead[index, state]
        at = MARKS * sign
        if moves[at + Y] == DONE:
            _add(found, number, self._landing(index))
        if moves[at + NO_MARK] is not None:
            _add(found, number, self.out_ahead + self.ahead[index, moves[at + NO_MARK]])

    def _add_back(self, found, sign, index, state):
        moves = self.links[index].moves[state]
        number = self.out_back + self.back[index, state]
        at = MARKS * sign
        if moves[at + X] == DONE:
            _add(found, index, number)
        if moves[at + NO_MARK] is not None:
            _add(found, self.in_back + self.back[index, moves[at + NO_MARK]], number)

    def _landing(self, index):
        return (index + 1) % self.stops


def links_of(layers):
    """The links of walks through these layers."""
    # A walk goes back through the layers, from what is held in the end.
    return [layer_machine(layer) for layer in layers[::-1]]


def _crossings(links, mark):
    # The pairs (link, state) in which this mark alone is read, numbered.
    pairs = [(index, state) for index, link in enumerate(links)
             for state, read in enumerate(link.marked) if read == mark]
    return {pair: number for number, pair in enumerate(pairs)}


def _add(sets, number, member):
    sets[number] = sets[number] | 1 << member


def _reached(next_sets, number):
    # The set of all numbers to which walks lead from this one, itself among them.
    reached = 1 << number
    left = reached
    while left:
        number = left.bit_length() - 1
        fresh = next_sets[number] & ~reached
        reached = reached | fresh
        left = (left - (1 << number)) | fresh
    return reached
