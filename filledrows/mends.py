"""Least sets of changes that mend a program."""

from filledrows.asking import can_hold
from filledrows.bits import members
from filledrows.errors import InvalidChanges
from filledrows.kinds import check_kind
from filledrows.layers import read_layer
from filledrows.lines import check_plan
from filledrows.programs import check_program, is_index, program_of

MOST_CHANGES = 4


def mends(program, kind, plan, changes):
    """All least sets of the changes that mend the program, as the indexes of the changes."""
    check_program(program)
    check_kind(kind)
    check_plan(plan)
    _check_changes(program, changes)
    least = []
    for chosen in _all_sets(len(changes)):
        has_part = any([_is_part(smaller, chosen) for smaller in least])
        if not has_part and _mends(program, kind, plan, [changes[index] for index in chosen]):
            least.append(chosen)
    return tuple(least)


def _check_changes(program, changes):
    if not isinstance(changes, tuple):
        raise InvalidChanges(None)
    changed = []
    for number, change in enumerate(changes):
        if number == MOST_CHANGES or not _is_change(program, change) or change[0] in changed:
            raise InvalidChanges(number)
        changed.append(change[0])


def _is_change(program, value):
    if not isinstance(value, tuple) or len(value) != 2 or not is_index(program, value[0]):
        return False
    return value[1] is None or read_layer(value[1]) is not None


def _all_sets(many):
    # All sets of the indexes below this number, smaller ones first, equally large ones ascending.
    sets = [tuple(members(bits)) for bits in range(1 << many)]
    found = []
    for size in range(many + 1):
        found.extend(sorted([chosen for chosen in sets if len(chosen) == size]))
    return found


def _is_part(smaller, chosen):
    return all([index in chosen for index in smaller])


def _mends(program, kind, plan, changes):
    layers = list(program.layers)
    for index, layer in changes:
        layers[index] = layer
    changed = program_of(tuple([layer for layer in layers if layer is not None]))
    return changed is not None and not can_hold(changed, kind, plan)
