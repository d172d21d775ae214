"""Questions about all lines of a plan: what their true places can hold."""

from filledrows.errors import InvalidNumber, TooMany
from filledrows.kinds import check_kind
from filledrows.limits import MOST_EVER, MOST_WIDTH
from filledrows.lines import check_plan
from filledrows.machines import kind_machine, plan_machine
from filledrows.programs import check_program, layers_of, width_of
from filledrows.running import is_rounds
from filledrows.searches import WalkSearch, shortest
from filledrows.walks import Walks, links_of


def can_hold(program, kind, plan, *, rounds=1):
    """Whether on some line of the plan a true place holds something of the kind."""
    return shown(program, kind, plan, rounds=rounds) is not None


def shown(program, kind, plan, *, rounds=1):
    """A shortest line of the plan on which x holds y, of the kind for it, with x and y, or None."""
    check_program(program)
    check_kind(kind)
    check_plan(plan)
    check_any_rounds(rounds)
    check_width(program, rounds)
    return shortest(kind_search(walks_of(program, rounds), kind, plan))


def miscounted(program, plan):
    """The index of the first layer in which a true place looks at one not of its row, or None."""
    check_program(program)
    check_plan(plan)
    for index, layer in enumerate(layers_of(program)):
        # What a true place takes besides those at which it looks is only itself.
        looks = Walks(links_of([layer]), False)
        if shortest(kind_search(looks, "strange", plan)) is not None:
            return index
    return None


def check_any_rounds(rounds):
    """Raises InvalidNumber for what is neither an integer from 1 to 6 nor None."""
    if rounds is not None and not is_rounds(rounds):
        raise InvalidNumber(rounds)


def check_width(program, rounds):
    """Raises TooMany if the program is too wide for so many rounds, None for any number."""
    width = width_of(program)
    if rounds is None:
        if width > MOST_EVER:
            raise TooMany(MOST_EVER)
    elif rounds * width > MOST_WIDTH:
        raise TooMany(MOST_WIDTH)


def walks_of(program, rounds):
    """The walks over what is taken in so many rounds, None for any number of them."""
    links = links_of(layers_of(program))
    return Walks(links, True) if rounds is None else Walks(links * rounds, False)


def kind_search(walks, kind, plan):
    """The search for a line of the plan with a walk to a place of this kind."""
    return WalkSearch(walks, kind_machine(kind), plan_machine(plan))
