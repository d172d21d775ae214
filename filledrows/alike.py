"""Programs compared on all lines of a plan: with each other, and with what is held alone."""

from filledrows.lines import check_plan
from filledrows.programs import check_program, layers_of
from filledrows.readers import WalkReader
from filledrows.searches import DifferenceSearch, shortest
from filledrows.walks import Walks, links_of


def alike(one, other, plan):
    """Whether on all lines of the plan each true place holds the same behind both programs."""
    return unlike(one, other, plan) is None


def unlike(one, other, plan):
    """A shortest line of the plan on which x holds y behind just one program, with x and y, or None."""
    check_program(one)
    check_program(other)
    check_plan(plan)
    return _difference(layers_of(one), layers_of(other), plan)


def lonely(program, plan):
    """Whether on all lines of the plan each true place holds just what it holds alone."""
    return more(program, plan) is None


def more(program, plan):
    """A shortest line of the plan on which x holds y, but does not alone, with x and y, or None."""
    check_program(program)
    check_plan(plan)
    layers = layers_of(program)
    # What a place holds alone it always holds: so only more than this makes a difference.
    return _difference(layers, [layer.in_row() for layer in layers], plan)


def needless(program, plan):
    """The indexes of the layers without which the program is alike on this plan."""
    check_program(program)
    check_plan(plan)
    many = len(program)
    if many == 1:
        return ()
    return tuple([index for index in range(many) if alike(program, program.without(index), plan)])


def _difference(layers, others, plan):
    return shortest(DifferenceSearch(_reader(layers), _reader(others), plan))


def _reader(layers):
    return WalkReader(Walks(links_of(layers), False))
