"""Questions about all lines of a plan: what their true places can hold."""

from filledrows.errors import InvalidNumber, TooMany
from filledrows.limits import MOST_EVER, MOST_WIDTH
from filledrows.lines import check_plan
from filledrows.machines import check_kind, kind_machine, layer_machine, plan_machine
from filledrows.programs import check_program, layers_of, width_of
from filledrows.running import is_rounds
from filledrows.searches import WalkSearch, shortest
from filledrows.walks import Walks


def can_hold(program, kind, plan, *, rounds=1):
    """Whether on some line of the plan a true place holds something of the kind."""
    return shown(program, kind, plan, rounds=rounds) is not None


def shown(program, kind, plan, *, rounds=1):
    """A shortest line of the plan on which x holds y, of the kind for it, with x and y, or None."""
    check_program(program)
    check_kind(kind)
    check_plan(plan)
    check_any_rounds(rounds)
    check_width(program, rounds)
    # A walk goes back through the layers, from what is held in the end.
    links = [layer_machine(layer) for layer in reversed(layers_of(program))]
    walks = Walks(links, True) if rounds is None else Walks(links * rounds, False)
    return _shortest(walks, kind, plan)


def miscounted(program, plan):
    """The index of the first layer in which a true place looks at one not of its row, or None."""
    check_program(program)
    check_plan(plan)
    for index, layer in enumerate(layers_of(program)):
        # What a true place takes besides those at which it looks is only itself.
        if _shortest(Walks([layer_machine(layer)], False), "strange", plan) is not None:
            return index
    return None


def check_any_rounds(rounds):
    """Raises InvalidNumber for what is neither an integer from 1 to 6 nor None."""
    if rounds is not None and not is_rounds(rounds):
        raise InvalidNumber(rounds)


def check_width(program, rounds):
    """Raises TooMany if the program is too wide for so many rounds, None for any number."""
    width = width_of(program)
    if rounds is None:
        if width > MOST_EVER:
            raise TooMany(MOST_EVER)
    elif rounds * width > MOST_WIDTH:
        raise TooMany(MOST_WIDTH)


def _shortest(walks, kind, plan):
    return shortest(WalkSearch(walks, kind_machine(kind), plan_machine(plan)))
