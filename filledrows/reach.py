"""How far true places reach within their rows."""

from filledrows.asking import check_any_rounds, check_width, kind_search, walks_of
from filledrows.graphs import living, longest
from filledrows.lines import check_plan
from filledrows.programs import check_program
from filledrows.searches import all_states


def reach(program, plan, *, rounds=1):
    """The greatest distances of an earlier and of a later place of its row that a place holds."""
    check_program(program)
    check_plan(plan)
    check_any_rounds(rounds)
    check_width(program, rounds)
    walks = walks_of(program, rounds)
    return _greatest(walks, "earlier", plan), _greatest(walks, "later", plan)


def _greatest(walks, kind, plan):
    search = kind_search(walks, kind, plan)
    states, leads = all_states(search)
    alive = living(leads, [search.is_last(state) for state in states])
    # A line is as long between x and y as the search goes over states in which one of both is read.
    between = [search.is_between(state) for state in states]
    return longest(leads, [is_alive and lies for is_alive, lies in zip(alive, between)])
