"""Claims about programs, each with a certificate that the checker accepts."""

from filledrows.alike import more, unlike
from filledrows.asking import check_width, shown, walks_of
from filledrows.kinds import check_kind
from filledrows.layers import layers_width
from filledrows.lines import check_plan
from filledrows.machines import kind_machine, layer_machine, turned
from filledrows.programs import check_program, layers_of
from filledrows.readers import WalkReader
from filledrows.running import taken_lists
from filledrows.walks import Walks, links_of
from filledrows.writing import written_machine


def certify_never(program, kind, plan):
    """The claim "never" with its machines, or "can" with a line and a chain."""
    check_program(program)
    check_kind(kind)
    check_plan(plan)
    claimed = (str(program), kind, plan)
    found = shown(program, kind, plan)
    if found is None:
        return ("never",) + claimed, _never_machines(layers_of(program), kind, plan)
    return ("can",) + claimed, _with_chain(program, *found)


def certify_ever(program, kind, plan):
    """The claim "ever" with its machines, or "sometime" with a line and a chain."""
    check_program(program)
    check_kind(kind)
    check_plan(plan)
    check_width(program, None)
    claimed = (str(program), kind, plan)
    found = shown(program, kind, plan, rounds=None)
    if found is None:
        return ("ever",) + claimed, _ever_machines(program, plan)
    return ("sometime",) + claimed, _with_chain(program, *found)


def certify_unlike(one, other, plan):
    """The claim "unlike" with a line and two places; None if both programs are alike."""
    found = unlike(one, other, plan)
    return None if found is None else (("unlike", str(one), str(other), plan), found)


def certify_more(program, plan):
    """The claim "more" with a line and two places; None if places hold what they hold alone."""
    found = more(program, plan)
    return None if found is None else (("more", str(program), plan), found)


def _never_machines(layers, kind, plan):
    return tuple([_never_machine(layers[:many], layers[many:], kind, plan)
                  for many in range(1, len(layers) + 1)])


def _never_machine(front, behind, kind, plan):
    # What places hold behind the layers in front, or, which may be more, what they may hold there:
    # all but what makes a place hold something of the kind behind the other layers. The narrower
    # part of the program gives machines with fewer states.
    if layers_width(front) <= layers_width(behind):
        return written_machine(WalkReader(Walks(links_of(front), False)), plan, True)
    links = [turned(layer_machine(layer)) for layer in behind] + [kind_machine(kind)]
    return written_machine(WalkReader(Walks(links, False)), plan, False)


def _ever_machines(program, plan):
    # What places hold behind so many layers and any number of rounds, none among them.
    walks = walks_of(program, None)
    many = len(program)
    machines = [written_machine(WalkReader(walks, begin), plan, True) for begin in range(many)]
    # A walk begins behind the last layers first.
    return tuple(machines[:1] + machines[:0:-1] + machines[:1])


def _with_chain(program, line, x, y):
    # The line with a chain of places from y to x, over as few rounds as possible.
    takings = [taken_lists(layer, line) for layer in layers_of(program)]
    # For so many layers the places that hold y behind them.
    holders = [1 << y]
    while len(holders) == 1 or not holders[-1] >> x & 1:
        for taking in takings:
            holders.append(_takers(taking, holders[-1]))
    chain = [x]
    for number in range(len(holders) - 2, -1, -1):
        taking = takings[number % len(takings)]
        chain.insert(0, [place for place in taking[chain[0]] if holders[number] >> place & 1][0])
    return line, tuple(chain)


def _takers(taking, places):
    # The set of the places that take from any of these.
    found = 0
    for place, others in enumerate(taking):
        if any([places >> other & 1 for other in others]):
            found = found | 1 << place
    return found
